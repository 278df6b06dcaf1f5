package ariabook_test

import (
	"testing"

	"ariabook/api"
	"ariabook/ariabook"
)

func TestP3New(t *testing.T) {
	for _, batch := range append(edges(), 7) {
		for _, workers := range append(edges(), 7) {
			want := api.OK
			if batch < 1 || batch > 8 || workers < 1 || workers > 5 {
				want = api.ErrArg
			}
			b, e := ariabook.New(batch, workers)
			if e != want || (b != nil) != (want == api.OK) {
				t.Errorf("New(%d, %d) = %v, %d, want error %d", batch, workers, b, e, want)
			}
		}
	}
}

func TestP3ABookIsEmpty(t *testing.T) {
	for _, c := range [][2]int{{1, 1}, {1, 5}, {8, 1}, {8, 5}} {
		b := bookOf(t, c[0], c[1])
		if log := b.Log(); log != "" {
			t.Errorf("New(%d, %d): its log is %x", c[0], c[1], log)
		}
		holds(t, b)
		nothingIsDone(t, b)
		accept(t, b, 1, []api.Ins{{}})
	}
}

// Replay keeps to the size of the batches, too: of the log's own batches and of those behind it.
func TestP3ReplayKeepsItsBatch(t *testing.T) {
	ten := bookOf(t, 4, 1)
	for range 10 {
		handIn(t, ten, code(out(0)))
	}
	ten.Batch()
	for batch := 1; batch <= 8; batch++ {
		b := replay(t, ten.Log(), batch, 5)
		waiting := 10 - batch
		for id := 1; id <= 10; id++ {
			if _, e := b.Result(id); (e == api.OK) != (id <= batch) {
				t.Errorf("Replay with batches of %d: Result(%d) = error %d", batch, id, e)
			}
		}
		if n := len(b.Batch()); n != min(batch, waiting) {
			t.Errorf("Replay with batches of %d: the next decides %d", batch, n)
		}
	}
}

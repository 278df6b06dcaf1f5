package ariabook_test

import (
	"math"
	"testing"

	"ariabook/api"
	"ariabook/ariabook"
)

func flushes(t *testing.T, b *ariabook.Book, want int) {
	t.Helper()
	if n := b.Flush(); n != want {
		t.Errorf("Flush = %d, want %d", n, want)
	}
}

func TestP9FlushOfNothing(t *testing.T) {
	b := bookOf(t, 3, 2)
	flushes(t, b, 0)
	if b.Log() != "" {
		t.Errorf("Flush of nothing is in the log: %x", b.Log())
	}
	handIn(t, b, counter())
	flushes(t, b, 1)
	log := b.Log()
	flushes(t, b, 0)
	if b.Log() != log {
		t.Error("Flush of nothing is in the log")
	}
}

func TestP9Flush(t *testing.T) {
	for batch := 1; batch <= 8; batch++ {
		for count := 1; count <= 60; count++ {
			b := bookOf(t, batch, 4)
			for range count {
				handIn(t, b, code(set(0, 1), out(0)))
			}
			flushes(t, b, (count+batch-1)/batch)
			nothingIsDone(t, b)
		}
		b := bookOf(t, batch, 4)
		for range 60 {
			handIn(t, b, counter())
		}
		flushes(t, b, 60)
		nothingIsDone(t, b)
		holds(t, b, api.Pair{Key: "x", Number: 60})
	}
}

// Flush does what as many calls of Batch do, and counts its own batches only.
func TestP9FlushAsBatches(t *testing.T) {
	programs := [][]api.Ins{counter(), code(put("y", 0)), counter(), code(get(0, "y"), fail()), code(del("x"))}
	one, other := bookWith(t, 3, programs...), bookWith(t, 3, programs...)
	one.Batch()
	other.Batch()
	n := 0
	for len(other.Batch()) > 0 {
		n++
	}
	flushes(t, one, n)
	for id := 1; id <= 5; id++ {
		d, e := one.Result(id)
		if want, _ := other.Result(id); d != want || e != api.OK {
			t.Errorf("behind Flush Result(%d) = %v, %d, behind Batch %v", id, d, e, want)
		}
	}
	if one.Log() != other.Log() {
		t.Error("Flush and Batch leave other logs")
	}
}

func TestP9ResultNone(t *testing.T) {
	b := bookOf(t, 2, 2)
	none := func(ids ...int) {
		t.Helper()
		for _, id := range ids {
			if d, e := b.Result(id); d != (api.Done{}) || e != api.ErrNone {
				t.Errorf("Result(%d) = %v, %d, want nothing, ErrNone", id, d, e)
			}
		}
	}
	none(edges()...)
	handIn(t, b, counter(), counter())
	none(math.MinInt, math.MinInt+1, -2, -1, 0, 3, 4, 59, 60, 61, math.MaxInt-1, math.MaxInt)
	refuse(t, b, api.ErrProc, nil)
	none(3)
	b.Flush()
	none(math.MinInt, -1, 0, 3, 60, math.MaxInt)
	fill(t, b, 3)
	refuse(t, b, api.ErrFull, counter())
	none(math.MinInt, -60, -1, 0, 61, 62, 1<<32+1, math.MaxInt)
	b.Flush()
	none(math.MinInt, -60, -1, 0, 61, 62, 1<<32+1, math.MaxInt)
}

func TestP9ResultWaits(t *testing.T) {
	b := bookWith(t, 2, counter(), counter(), code(fail()))
	waits(t, b, 1, 2, 3)
	b.Batch()
	waits(t, b, 2, 3)
	if _, e := b.Result(1); e != api.OK {
		t.Errorf("Result(1) = error %d: it was decided", e)
	}
	fill(t, b, 4)
	waits(t, b, 2, 3, 4, 59, 60)
}

func TestP9ResultAsBatchToldIt(t *testing.T) {
	for batch := 1; batch <= 8; batch++ {
		b := bookOf(t, batch, 3)
		for n := range 60 {
			handIn(t, b, [][]api.Ins{counter(), code(get(1, "x"), out(1)), code(get(0, "x"), out(0), fail()), code(set(2, -n), out(2))}[n%4])
		}
		want := map[int]api.Done{}
		for {
			l := b.Batch()
			if len(l) == 0 {
				break
			}
			for _, d := range l {
				want[d.ID] = d
			}
			for id := 1; id <= 60; id++ {
				d, e := b.Result(id)
				if w, decided := want[id]; decided && (d != w || e != api.OK) || !decided && e != api.ErrWaits {
					t.Errorf("Result(%d) = %v, %d, Batch told %v", id, d, e, w)
				}
			}
		}
		if len(want) != 60 {
			t.Errorf("the batches told %d of 60 programs", len(want))
		}
	}
}

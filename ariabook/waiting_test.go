package ariabook

import (
	"slices"
	"testing"

	"ariabook/api"
	"ariabook/keys"
	"ariabook/program"
)

// No call tells yet what waits, so it is looked at from within.
func TestP4WaitsBehindAllThatWait(t *testing.T) {
	b, _ := New(2, 2)
	for n := 1; n <= 60; n++ {
		code := []api.Ins{{Op: api.Set, N: n}, {Op: api.Put, N: n, Key: "k"}}
		b.Submit(code)
		code[0], code[1] = api.Ins{Op: api.Fail}, api.Ins{Op: api.Fail}
		b.Submit(nil)
	}
	b.Submit([]api.Ins{{}})
	if len(b.waiting) != 60 {
		t.Fatalf("%d programs wait, not 60", len(b.waiting))
	}
	for i, w := range b.waiting {
		want := program.Program{{Op: api.Set, N: i + 1}, {Op: api.Put, Key: keys.Of("k")}}
		if w.id != i+1 || !slices.Equal(w.code, want) {
			t.Errorf("place %d: program %d waits: %v", i, w.id, w.code)
		}
	}
}

func TestP3KeepsItsBounds(t *testing.T) {
	for batch := 1; batch <= 8; batch++ {
		for workers := 1; workers <= 5; workers++ {
			if b, e := New(batch, workers); e != api.OK || b.batch != batch || b.workers != workers {
				t.Errorf("New(%d, %d) = %v, %d", batch, workers, b, e)
			}
		}
	}
}

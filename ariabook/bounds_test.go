package ariabook

import (
	"testing"

	"ariabook/api"
)

// How many workers a book has no call tells, so it is looked at from within.
func TestP3KeepsItsBounds(t *testing.T) {
	for batch := 1; batch <= 8; batch++ {
		for workers := 1; workers <= 5; workers++ {
			if b, e := New(batch, workers); e != api.OK || b.batch != batch || b.workers != workers {
				t.Errorf("New(%d, %d) = %v, %d", batch, workers, b, e)
			}
			if b, e := Replay("", batch, workers); e != api.OK || b.batch != batch || b.workers != workers {
				t.Errorf("Replay(.., %d, %d) = %v, %d", batch, workers, b, e)
			}
		}
	}
}

// Of a program that was decided no more is kept than its result.
func TestKeepsNoCodeOfDecidedPrograms(t *testing.T) {
	b, _ := New(3, 2)
	for n := 1; n <= 10; n++ {
		b.Submit([]api.Ins{{Op: api.Set, N: n}, {Op: api.Put, Key: "k"}})
	}
	for n := 9; n >= 0; n-- {
		b.Batch()
		if len(b.waiting) != n {
			t.Fatalf("%d programs wait, want %d", len(b.waiting), n)
		}
		for _, w := range b.waiting[:cap(b.waiting)] {
			if w.id != 0 && w.id <= 10-n {
				t.Errorf("program %d is decided and still kept", w.id)
			}
		}
	}
}

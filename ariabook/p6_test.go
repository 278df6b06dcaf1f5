package ariabook_test

import (
	"testing"

	"ariabook/api"
	"ariabook/ariabook"
)

// nothingIsDone runs a batch while nothing waits.
func nothingIsDone(t *testing.T, b *ariabook.Book) {
	t.Helper()
	log := b.Log()
	for range 3 {
		if l := b.Batch(); len(l) != 0 {
			t.Errorf("Batch, while nothing waits, tells %v", l)
		}
	}
	if b.Log() != log {
		t.Errorf("Batch, while nothing waits, is in the log: %x", b.Log()[len(log):])
	}
}

func TestP6NothingWaits(t *testing.T) {
	b := bookOf(t, 2, 2)
	nothingIsDone(t, b)
	holds(t, b)
	refuse(t, b, api.ErrProc, nil)
	nothingIsDone(t, b)
	handIn(t, b, counter())
	if l := b.Batch(); len(l) != 1 || l[0] != (api.Done{ID: 1, Batch: 1, Outcome: api.Committed, Output: 1}) {
		t.Errorf("the first batch tells %v: those of nothing are counted", l)
	}
	nothingIsDone(t, b)
	holds(t, b, api.Pair{Key: "x", Number: 1})
	handIn(t, b, counter())
	if l := b.Batch(); len(l) != 1 || l[0] != (api.Done{ID: 2, Batch: 2, Outcome: api.Committed, Output: 2}) {
		t.Errorf("the second batch tells %v: those of nothing are counted", l)
	}
}

// Programs that have nothing to do with one another are all decided: so the answers tell who was of the batch.
func TestP6TheFirstThatWait(t *testing.T) {
	for batch := 1; batch <= 8; batch++ {
		for waiting := 1; waiting <= 20; waiting++ {
			b := bookOf(t, batch, 3)
			for n := 1; n <= waiting; n++ {
				handIn(t, b, code(set(0, 100*n), out(0)))
			}
			for next, number := 1, 1; next <= waiting; number++ {
				l := b.Batch()
				if len(l) != min(batch, waiting-next+1) {
					t.Fatalf("batch %d of %d at a time, of %d, tells %d programs", number, batch, waiting, len(l))
				}
				for _, d := range l {
					if d != (api.Done{ID: next, Batch: number, Outcome: api.Committed, Output: 100 * next}) {
						t.Fatalf("batch %d of %d at a time tells %v, want program %d", number, batch, l, next)
					}
					next++
				}
			}
			nothingIsDone(t, b)
		}
	}
}

func TestP6OnTheBookAsItIs(t *testing.T) {
	// a reader behind a writer reads what was there ahead of the batch
	b := bookWith(t, 8, code(set(0, 5), put("x", 0), put("y", 0)))
	b.Batch()
	handIn(t, b, code(set(0, 6), put("x", 0), del("y")), code(get(0, "x"), out(0)), code(has(0, "y"), out(0)), code(get(0, "y"), out(0)))
	batchTells(t, b, " 5+5 4+1 3+5 2+0")
	handIn(t, b, code(get(0, "x"), out(0)), code(has(0, "y"), out(0)))
	batchTells(t, b, " 6+6 7+0")
	// what went on waiting runs again, on what the batch ahead left
	b = bookWith(t, 8, counter(), counter(), counter())
	batchTells(t, b, " 1+1")
	batchTells(t, b, " 2+2")
	batchTells(t, b, " 3+3")
	holds(t, b, api.Pair{Key: "x", Number: 3})
}

// How a program fails may be another thing at its next run: nothing is kept of the run ahead.
func TestP6RunsAnew(t *testing.T) {
	untilOne := code(get(0, "x"), set(1, 1), sub(1, 0), put("x", 0), div(0, 1))
	b := bookWith(t, 2, code(set(0, 1), put("x", 0)), untilOne)
	batchTells(t, b, " 1+0")
	batchTells(t, b, " 2-0")
	b = bookWith(t, 2, code(set(0, 1), put("x", 0), put("y", 0)), code(get(0, "x"), jump(0, 3), put("x", 0), put("y", 0), out(0)))
	batchTells(t, b, " 1+0")
	batchTells(t, b, " 2+1")
	holds(t, b, api.Pair{Key: "x", Number: 1}, api.Pair{Key: "y", Number: 1})
}

// Programs that are handed in behind a batch wait behind those that went on waiting.
func TestP6EarlierIsTheLesserNumber(t *testing.T) {
	b := bookWith(t, 2, counter(), counter())
	batchTells(t, b, " 1+1")
	handIn(t, b, code(set(0, 50), put("x", 0)), code(get(0, "x"), out(0)))
	batchTells(t, b, " 2+2")
	batchTells(t, b, " 4+2 3+0")
	holds(t, b, api.Pair{Key: "x", Number: 50})
}

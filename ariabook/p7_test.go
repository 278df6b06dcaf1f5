package ariabook_test

import (
	"testing"

	"ariabook/api"
)

// allBatches runs the programs in batches of that size, for all numbers of workers, and holds against want what each batch tells.
func allBatches(t *testing.T, what string, batch int, programs [][]api.Ins, want ...string) {
	t.Helper()
	for workers := 1; workers <= 5; workers++ {
		b := bookOf(t, batch, workers)
		handIn(t, b, programs...)
		for i, w := range want {
			if got := told(b.Batch()); got != w {
				t.Errorf("%s, %d workers: batch %d tells%s, want%s", what, workers, i+1, got, w)
			}
		}
		if got := told(b.Batch()); got != "" {
			t.Errorf("%s, %d workers: there is a batch more, which tells%s", what, workers, got)
		}
	}
}

func TestP7FlagsByOne(t *testing.T) {
	for _, c := range []struct {
		what          string
		first, second []api.Ins
		want          []string
	}{
		{"no flag", code(get(0, "a"), put("b", 0)), code(get(0, "c"), put("d", 0)), []string{" 1+0 2+0"}},
		{"no flag: both read", code(get(0, "a")), code(get(0, "a"), has(0, "a")), []string{" 1+0 2+0"}},
		{"no flag: keys that begin alike", code(get(0, "a"), put("ab", 0)), code(put("aa", 0), put("abc", 0), put("b", 0), get(0, "abcd"), get(0, "a")), []string{" 1+0 2+0"}},
		{"no flag: what it reads and writes itself", code(put("a", 0)), code(get(0, "b"), put("b", 0), get(0, "b")), []string{" 1+0 2+0"}},
		{"write: put and put", code(put("a", 0)), code(put("a", 0)), []string{" 1+0", " 2+0"}},
		{"write: put and del", code(put("a", 0)), code(del("a")), []string{" 1+0", " 2+0"}},
		{"write: del and put", code(del("a")), code(put("a", 0)), []string{" 1+0", " 2+0"}},
		{"write: del and del", code(del("a")), code(del("a")), []string{" 1+0", " 2+0"}},
		{"write: the last of four", code(put("a", 0), put("b", 0), put("c", 0), put("d", 0)), code(put("h", 0), put("g", 0), put("f", 0), put("d", 0)), []string{" 1+0", " 2+0"}},
		{"read: put and get", code(put("a", 0)), code(get(0, "a")), []string{" 2+0 1+0"}},
		{"read: put and has", code(put("a", 0)), code(has(0, "a")), []string{" 2+0 1+0"}},
		{"read: del and get", code(del("a")), code(get(0, "a")), []string{" 2+0 1+0"}},
		{"read, and writes another", code(put("a", 0)), code(get(0, "a"), put("b", 0)), []string{" 2+0 1+0"}},
		{"wait: get and put", code(get(0, "a")), code(put("a", 0)), []string{" 1+0 2+0"}},
		{"wait: has and del", code(has(0, "a")), code(del("a")), []string{" 1+0 2+0"}},
		{"write and read", code(put("a", 0)), code(get(0, "a"), put("a", 0)), []string{" 1+0", " 2+0"}},
		{"write and read, of two keys", code(put("a", 0), put("b", 0)), code(get(0, "a"), put("b", 0)), []string{" 1+0", " 2+0"}},
		{"write and wait", code(get(0, "a"), put("a", 0)), code(put("a", 0)), []string{" 1+0", " 2+0"}},
		{"write and wait, of two keys", code(get(0, "a"), put("b", 0)), code(put("a", 0), put("b", 0)), []string{" 1+0", " 2+0"}},
		{"read and wait", code(get(0, "a"), put("b", 0)), code(get(0, "b"), put("a", 0)), []string{" 1+0", " 2+0"}},
		{"all three", code(get(0, "a"), put("a", 0)), code(get(0, "a"), put("a", 0)), []string{" 1+0", " 2+0"}},
		{"all three, of three keys", code(get(0, "a"), put("b", 0), put("c", 0)), code(put("a", 0), get(0, "b"), put("c", 0)), []string{" 1+0", " 2+0"}},
	} {
		allBatches(t, c.what, 2, [][]api.Ins{c.first, c.second}, c.want...)
		// one between them that has nothing to do with them
		shifted := [][]api.Ins{c.first, code(get(0, "y"), put("z", 0)), c.second}
		b := bookWith(t, 3, shifted...)
		b.Batch()
		if _, e := b.Result(3); (e == api.ErrWaits) != (len(c.want) == 2) {
			t.Errorf("%s, with one between: Result(3) = error %d", c.what, e)
		}
		// a batch each: there is no earlier one, whatever ran ahead
		allBatches(t, c.what+", one at a time", 1, [][]api.Ins{c.first, c.second}, " 1+0", " 2+0")
	}
}

func TestP7FlagsByAllEarlier(t *testing.T) {
	for _, c := range []struct {
		what     string
		programs [][]api.Ins
		want     []string
	}{
		{"read by one, wait by another", [][]api.Ins{code(put("a", 0)), code(get(0, "b")), code(get(0, "a"), put("b", 0))}, []string{" 1+0 2+0", " 3+0"}},
		{"wait by one, read by another", [][]api.Ins{code(get(0, "b")), code(put("a", 0)), code(get(0, "a"), put("b", 0))}, []string{" 1+0 2+0", " 3+0"}},
		{"write by the first of many", [][]api.Ins{code(put("a", 0)), code(put("b", 0)), code(put("c", 0)), code(put("a", 0))}, []string{" 1+0 2+0 3+0", " 4+0"}},
		{"write by the last of many", [][]api.Ins{code(put("c", 0)), code(put("b", 0)), code(put("a", 0)), code(put("a", 0))}, []string{" 1+0 2+0 3+0", " 4+0"}},
		{"write by one that waits", [][]api.Ins{code(put("a", 0)), code(put("a", 0), put("b", 0)), code(put("b", 0))}, []string{" 1+0", " 2+0", " 3+0"}},
		{"read by one that waits", [][]api.Ins{code(put("a", 0)), code(put("a", 0), put("b", 0)), code(get(0, "b"))}, []string{" 3+0 1+0", " 2+0"}},
		{"read and wait by one that waits", [][]api.Ins{code(put("a", 0)), code(get(0, "c"), put("a", 0), put("b", 0)), code(get(0, "b"), put("c", 0))}, []string{" 1+0", " 2+0", " 3+0"}},
		{"wait by one that waits, read by another", [][]api.Ins{code(put("a", 0)), code(get(0, "c"), put("a", 0)), code(get(0, "a"), put("c", 0))}, []string{" 1+0", " 2+0", " 3+0"}},
		{"read by one that is told first", [][]api.Ins{code(put("a", 0)), code(get(0, "a"), put("b", 0)), code(get(0, "b"))}, []string{" 3+0 2+0 1+0"}},
		{"no write by one that fails", [][]api.Ins{code(put("a", 0), fail()), code(put("a", 0))}, []string{" 1-0 2+0"}},
		{"no read by one that fails", [][]api.Ins{code(put("a", 0), fail()), code(get(0, "a"))}, []string{" 1-0 2+0"}},
		{"wait by one that fails", [][]api.Ins{code(get(0, "a"), fail()), code(put("a", 0))}, []string{" 1-0 2+0"}},
		{"wait by one that fails, read by another", [][]api.Ins{code(get(0, "a"), fail()), code(put("b", 0)), code(get(0, "b"), put("a", 0))}, []string{" 1-0 2+0", " 3+0"}},
		{"one that fails has no write flag", [][]api.Ins{code(put("a", 0)), code(put("a", 0), fail())}, []string{" 1+0 2-0"}},
		{"one that fails has no wait flag", [][]api.Ins{code(get(0, "a"), put("b", 0)), code(get(0, "b"), put("a", 0), fail())}, []string{" 2-0 1+0"}},
		{"flags are of earlier ones alone", [][]api.Ins{code(get(0, "a"), put("b", 0)), code(put("c", 0)), code(get(0, "c")), code(put("a", 0))}, []string{" 3+0 1+0 2+0 4+0"}},
	} {
		allBatches(t, c.what, 8, c.programs, c.want...)
	}
}

// Flags are of the batch alone: those that wait behind it, or were decided ahead of it, give none.
func TestP7FlagsOfTheBatch(t *testing.T) {
	allBatches(t, "two at a time", 2, [][]api.Ins{code(put("a", 0)), code(put("b", 0)), code(put("a", 0)), code(put("b", 0))}, " 1+0 2+0", " 3+0 4+0")
	allBatches(t, "three at a time", 3, [][]api.Ins{code(put("a", 0)), code(put("b", 0)), code(put("a", 0)), code(put("b", 0))}, " 1+0 2+0", " 3+0 4+0")
	allBatches(t, "four at a time", 4, [][]api.Ins{code(put("a", 0)), code(put("a", 0)), code(put("b", 0)), code(put("c", 0)), code(put("a", 0), put("d", 0)), code(put("b", 0))}, " 1+0 3+0 4+0", " 2+0 6+0", " 5+0")
}

func TestP7WaitAheadOfAllInTheirOrder(t *testing.T) {
	x, free := counter(), code(set(3, 9), out(3))
	allBatches(t, "ahead of those that wait", 3, [][]api.Ins{x, x, x, free, free, free, free}, " 1+1", " 2+2 4+9", " 3+3 5+9 6+9", " 7+9")
	allBatches(t, "as many as a batch", 3, [][]api.Ins{x, x, x, x, free}, " 1+1", " 2+2", " 3+3 5+9", " 4+4")
	allBatches(t, "with others between", 4, [][]api.Ins{x, free, x, free, x, free, x, free}, " 1+1 2+9 4+9", " 3+2 6+9", " 5+3 8+9", " 7+4")

	b := bookWith(t, 3, x, x, x)
	batchTells(t, b, " 1+1")
	waits(t, b, 2, 3)
	handIn(t, b, free, free)
	batchTells(t, b, " 2+2 4+9")
	waits(t, b, 3, 5)
	handIn(t, b, free)
	batchTells(t, b, " 3+3 5+9 6+9")
}

// The i-th of a batch is decided in the i-th from that one on, at the latest: here each is just then.
func TestP7EightInEightBatches(t *testing.T) {
	x := counter()
	allBatches(t, "eight that are in one another's way", 8, [][]api.Ins{x, x, x, x, x, x, x, x}, " 1+1", " 2+2", " 3+3", " 4+4", " 5+5", " 6+6", " 7+7", " 8+8")
}

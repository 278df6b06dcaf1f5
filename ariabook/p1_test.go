package ariabook_test

import (
	"slices"
	"strings"
	"testing"

	"ariabook/api"
	"ariabook/ariabook"
)

// texts are no keys, and keys, of all lengths and bytes.
func texts() []string {
	return []string{"", "a", "abcd", "abcde", "A", "\x00", "a\x00", "\x00a", "\xff\xfe", "é", "ab\xc3", "aé", strings.Repeat("z", 5_000_000), strings.Repeat("\x00", 300)}
}

func TestP1NewNeverPanics(t *testing.T) {
	for _, batch := range edges() {
		for _, workers := range edges() {
			b, e := ariabook.New(batch, workers)
			if e != api.OK && b != nil {
				t.Errorf("New(%d, %d) = a book, with error %d", batch, workers, e)
			}
			if e == api.OK && b == nil {
				t.Errorf("New(%d, %d) = no book, and OK", batch, workers)
			}
		}
	}
}

func TestP1SubmitNeverPanics(t *testing.T) {
	submit := func(code []api.Ins) {
		if id, e := book(t).Submit(code); (e == api.OK) != (id == 1) || e != api.OK && id != 0 {
			t.Errorf("Submit(%.200v) = %d, %d", code, id, e)
		}
	}
	for _, n := range edges() {
		for op := -1; op <= 12; op++ {
			for _, ins := range []api.Ins{{Op: op, R: n}, {Op: op, S: n}, {Op: op, N: n}, {Op: op, R: n, S: n, N: n}} {
				submit([]api.Ins{ins})
				ins.Key = "abc"
				submit(padded(20, ins))
			}
		}
		submit([]api.Ins{{Op: n, R: n, S: n, N: n}})
		submit([]api.Ins{{Op: n}})
	}
	for _, text := range texts() {
		for op := -1; op <= 12; op++ {
			submit([]api.Ins{{Op: op, Key: text}})
		}
	}
	for _, length := range []int{0, 1, 20, 21, 255, 256, 257, 65536, 1 << 20} {
		submit(make([]api.Ins, length))
		submit(slices.Repeat([]api.Ins{{Op: api.Put, Key: "abcd"}}, length))
	}
}

// states are books in all kinds of states: new, with programs that wait, amid the batches, at the end of them.
func states(t *testing.T) []*ariabook.Book {
	t.Helper()
	var books []*ariabook.Book
	for _, batches := range []int{0, 1, 3, 100} {
		for _, size := range []int{1, 8} {
			empty, some, full := bookOf(t, size, 5), bookOf(t, size, 1), bookOf(t, size, 3)
			handIn(t, some, mixed()...)
			handIn(t, some, counter(), counter(), code(set(0, 1), jump(0, 1)))
			handIn(t, full, counter(), code(div(0, 0)))
			fill(t, full, 3)
			for _, b := range []*ariabook.Book{empty, some, full} {
				for range batches {
					b.Batch()
				}
				books = append(books, b)
			}
		}
	}
	return books
}

func TestP1OtherCallsNeverPanic(t *testing.T) {
	for _, b := range states(t) {
		for _, n := range edges() {
			if d, e := b.Result(n); e != api.OK && d != (api.Done{}) {
				t.Errorf("Result(%d) = %v, with error %d", n, d, e)
			}
			ariabook.Replay(b.Log(), n, n)
			ariabook.Replay(b.Log(), 1, n)
			ariabook.Replay(b.Log(), n, 1)
		}
		for _, text := range texts() {
			if n, e := b.Get(text); e != api.OK && n != 0 {
				t.Errorf("Get(%.20q) = %d, with error %d", text, n, e)
			}
			ariabook.Replay(text, 1, 1)
			ariabook.Replay(b.Log()+text, 1, 1)
		}
		b.All()
		b.Batch()
		b.Flush()
		b.All()
		b.Log()
	}
}

// Every instruction, at the numbers at which an arithmetic may go wrong, is run and ends.
func TestP1RunsNeverPanic(t *testing.T) {
	for _, n := range edges() {
		for _, m := range edges() {
			b := bookOf(t, 8, 5)
			for op := range 12 {
				handIn(t, b, code(set(0, n), set(1, m), api.Ins{Op: op, S: 1, Key: "k", N: 2}, put("k", 0), out(0)))
			}
			b.Flush()
			for id := 1; id <= 12; id++ {
				if d, e := b.Result(id); d.ID != id || e != api.OK {
					t.Errorf("Result(%d) = %v, %d", id, d, e)
				}
			}
		}
	}
}

func TestP1FirstNamedError(t *testing.T) {
	b := book(t)
	fill(t, b, 1)
	refuse(t, b, api.ErrFull, []api.Ins{{Op: api.Out}})
	refuse(t, b, api.ErrProc, []api.Ins{{Op: 12}})
}

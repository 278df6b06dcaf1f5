package ariabook_test

import (
	"slices"
	"strings"
	"testing"

	"ariabook/api"
	"ariabook/ariabook"
)

// texts are no keys, and keys, of all lengths and bytes.
func texts() []string {
	return []string{"", "a", "abcd", "abcde", "A", "\x00", "a\x00", "\x00a", "\xff\xfe", "é", "ab\xc3", "aé", strings.Repeat("z", 5_000_000), strings.Repeat("\x00", 300)}
}

func TestP1NewNeverPanics(t *testing.T) {
	for _, batch := range edges() {
		for _, workers := range edges() {
			b, e := ariabook.New(batch, workers)
			if e != api.OK && b != nil {
				t.Errorf("New(%d, %d) = a book, with error %d", batch, workers, e)
			}
			if e == api.OK && b == nil {
				t.Errorf("New(%d, %d) = no book, and OK", batch, workers)
			}
		}
	}
}

func TestP1SubmitNeverPanics(t *testing.T) {
	submit := func(code []api.Ins) {
		if id, e := book(t).Submit(code); (e == api.OK) != (id == 1) || e != api.OK && id != 0 {
			t.Errorf("Submit(%.200v) = %d, %d", code, id, e)
		}
	}
	for _, n := range edges() {
		for op := -1; op <= 12; op++ {
			for _, ins := range []api.Ins{{Op: op, R: n}, {Op: op, S: n}, {Op: op, N: n}, {Op: op, R: n, S: n, N: n}} {
				submit([]api.Ins{ins})
				ins.Key = "abc"
				submit(padded(20, ins))
			}
		}
		submit([]api.Ins{{Op: n, R: n, S: n, N: n}})
		submit([]api.Ins{{Op: n}})
	}
	for _, text := range texts() {
		for op := -1; op <= 12; op++ {
			submit([]api.Ins{{Op: op, Key: text}})
		}
	}
	for _, length := range []int{0, 1, 20, 21, 255, 256, 257, 65536, 1 << 20} {
		submit(make([]api.Ins, length))
		submit(slices.Repeat([]api.Ins{{Op: api.Put, Key: "abcd"}}, length))
	}
}

func TestP1OtherCallsNeverPanic(t *testing.T) {
	for _, filled := range []bool{false, true} {
		b := book(t)
		if filled {
			fill(t, b, 1)
		}
		for _, n := range edges() {
			b.Result(n)
			ariabook.Replay(b.Log(), n, n)
			ariabook.Replay(b.Log(), 1, n)
			ariabook.Replay(b.Log(), n, 1)
		}
		for _, text := range texts() {
			b.Get(text)
			ariabook.Replay(text, 1, 1)
			ariabook.Replay(b.Log()+text, 1, 1)
		}
		b.All()
		b.Batch()
		b.Flush()
		b.Log()
	}
}

func TestP1FirstNamedError(t *testing.T) {
	b := book(t)
	fill(t, b, 1)
	refuse(t, b, api.ErrFull, []api.Ins{{Op: api.Out}})
	refuse(t, b, api.ErrProc, []api.Ins{{Op: 12}})
}

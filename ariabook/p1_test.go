package ariabook_test

import (
	"math/rand/v2"
	"slices"
	"strings"
	"testing"

	"ariabook/api"
	"ariabook/ariabook"
)

// texts are no keys, and keys, of all lengths and bytes.
func texts() []string {
	return []string{"", "a", "abcd", "abcde", "A", "\x00", "a\x00", "\x00a", "\xff\xfe", "é", "ab\xc3", "aé", strings.Repeat("z", 5_000_000), strings.Repeat("\x00", 300)}
}

func TestP1NewNeverPanics(t *testing.T) {
	for _, batch := range edges() {
		for _, workers := range edges() {
			b, e := ariabook.New(batch, workers)
			if e != api.OK && b != nil {
				t.Errorf("New(%d, %d) = a book, with error %d", batch, workers, e)
			}
			if e == api.OK && b == nil {
				t.Errorf("New(%d, %d) = no book, and OK", batch, workers)
			}
		}
	}
}

func TestP1SubmitNeverPanics(t *testing.T) {
	submit := func(code []api.Ins) {
		if id, e := book(t).Submit(code); (e == api.OK) != (id == 1) || e != api.OK && id != 0 {
			t.Errorf("Submit(%.200v) = %d, %d", code, id, e)
		}
	}
	for _, n := range edges() {
		for op := -1; op <= 12; op++ {
			for _, ins := range []api.Ins{{Op: op, R: n}, {Op: op, S: n}, {Op: op, N: n}, {Op: op, R: n, S: n, N: n}} {
				submit([]api.Ins{ins})
				ins.Key = "abc"
				submit(padded(20, ins))
			}
		}
		submit([]api.Ins{{Op: n, R: n, S: n, N: n}})
		submit([]api.Ins{{Op: n}})
	}
	for _, text := range texts() {
		for op := -1; op <= 12; op++ {
			submit([]api.Ins{{Op: op, Key: text}})
		}
	}
	for _, length := range []int{0, 1, 20, 21, 255, 256, 257, 65536, 1 << 20} {
		submit(make([]api.Ins, length))
		submit(slices.Repeat([]api.Ins{{Op: api.Put, Key: "abcd"}}, length))
	}
}

// states are books in all kinds of states: new, with programs that wait, amid the batches, at the end of them.
func states(t *testing.T) []*ariabook.Book {
	t.Helper()
	var books []*ariabook.Book
	for _, batches := range []int{0, 1, 3, 100} {
		for _, size := range []int{1, 8} {
			empty, some, full := bookOf(t, size, 5), bookOf(t, size, 1), bookOf(t, size, 3)
			handIn(t, some, mixed()...)
			handIn(t, some, counter(), counter(), code(set(0, 1), jump(0, 1)))
			handIn(t, full, counter(), code(div(0, 0)))
			fill(t, full, 3)
			for _, b := range []*ariabook.Book{empty, some, full} {
				for range batches {
					b.Batch()
				}
				books = append(books, b)
			}
		}
	}
	return books
}

func TestP1OtherCallsNeverPanic(t *testing.T) {
	for _, b := range states(t) {
		for _, n := range edges() {
			if d, e := b.Result(n); e != api.OK && d != (api.Done{}) {
				t.Errorf("Result(%d) = %v, with error %d", n, d, e)
			}
		}
		for _, text := range texts() {
			if n, e := b.Get(text); e != api.OK && n != 0 {
				t.Errorf("Get(%.20q) = %d, with error %d", text, n, e)
			}
		}
		b.All()
		b.Batch()
		b.Flush()
		b.All()
		b.Log()
	}
}

// Every instruction, at the numbers at which an arithmetic may go wrong, is run and ends.
func TestP1RunsNeverPanic(t *testing.T) {
	for _, n := range edges() {
		for _, m := range edges() {
			b := bookOf(t, 8, 5)
			for op := range 12 {
				handIn(t, b, code(set(0, n), set(1, m), api.Ins{Op: op, S: 1, Key: "k", N: 2}, put("k", 0), out(0)))
			}
			b.Flush()
			for id := 1; id <= 12; id++ {
				if d, e := b.Result(id); d.ID != id || e != api.OK {
					t.Errorf("Result(%d) = %v, %d", id, d, e)
				}
			}
		}
	}
}

func TestP1FirstNamedError(t *testing.T) {
	b := book(t)
	fill(t, b, 1)
	refuse(t, b, api.ErrFull, []api.Ins{{Op: api.Out}})
	refuse(t, b, api.ErrProc, []api.Ins{{Op: 12}})
}

// replayAndUse makes a book of any bytes, and makes all calls of it.
func replayAndUse(t *testing.T, log string, batch, workers int) {
	t.Helper()
	b, e := ariabook.Replay(log, batch, workers)
	if (b == nil) != (e != api.OK) {
		t.Fatalf("Replay(%.60x, %d, %d) = %v, %d", log, batch, workers, b, e)
	}
	if b == nil {
		return
	}
	if !strings.HasPrefix(log, b.Log()) {
		t.Errorf("Replay(%.60x, %d, %d): its log is not the beginning of what was handed in", log, batch, workers)
	}
	b.Submit(counter())
	b.Batch()
	b.Flush()
	b.All()
	b.Get("x")
	if _, e := b.Result(1); e != api.OK {
		t.Errorf("Replay(%.60x, %d, %d): behind Flush Result(1) = error %d", log, batch, workers, e)
	}
}

func TestP1ReplayNeverPanics(t *testing.T) {
	for _, b := range states(t) {
		log := b.Log()
		for _, n := range edges() {
			replayAndUse(t, log, n, n)
			replayAndUse(t, log, 1, n)
			replayAndUse(t, log, n, 1)
		}
		for _, text := range texts() {
			replayAndUse(t, text, 1, 1)
			replayAndUse(t, log+text, 8, 5)
			replayAndUse(t, text+log, 2, 2)
		}
		for from := range min(len(log), 300) {
			replayAndUse(t, log[from:], 3, 3)
		}
	}
}

// Bytes by chance are hardly ever an entry, so kinds and sums are set right here, and the payloads are by chance.
func TestP1ReplayOfRawBytes(t *testing.T) {
	chance := rand.New(rand.NewPCG(1, 20))
	raw := func(length, below int) string {
		bytes := make([]byte, length)
		for i := range bytes {
			bytes[i] = byte(chance.IntN(below))
		}
		return string(bytes)
	}
	for _, length := range []int{0, 1, 2, 3, 4, 5, 6, 7, 8, 100, 65535, 65536, 65540, 3_000_000} {
		for _, below := range []int{1, 2, 13, 256} {
			bytes := raw(length, below)
			for _, kind := range []string{"", "S", "B", "S\x03\x00", "S\xff\xff", "B\xff\xff", "\xff\xff\xff"} {
				replayAndUse(t, kind+bytes, 1+chance.IntN(8), 1+chance.IntN(5))
			}
		}
	}
	for range 3000 {
		log := ""
		for range 1 + chance.IntN(4) {
			kind := []string{"S", "S", "S", "B", "X"}[chance.IntN(5)]
			log += entry(kind, raw(chance.IntN(30), []int{2, 5, 13, 256}[chance.IntN(4)]))
		}
		replayAndUse(t, log, 1+chance.IntN(8), 1+chance.IntN(5))
	}
	for _, length := range []int{255, 256, 257, 65534, 65535} {
		for _, below := range []int{1, 4, 256} {
			replayAndUse(t, entry("S", raw(length, below))+entry("B", ""), 1, 1)
		}
	}
}

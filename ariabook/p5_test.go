package ariabook_test

import (
	"math"
	"slices"
	"strings"
	"testing"

	"ariabook/api"
)

func TestP5EmptyBook(t *testing.T) {
	b := book(t)
	if log := b.Log(); log != "" {
		t.Errorf("Log of an empty book = %x", log)
	}
	refuse(t, b, api.ErrProc, nil)
	if log := b.Log(); log != "" {
		t.Errorf("Log of a book that refused a program = %x", log)
	}
}

// The bytes are written out here, sums too, so that nothing of the program is held against itself.
func TestP5EntriesBehindEachSubmit(t *testing.T) {
	set := func(n int) []api.Ins { return []api.Ins{{Op: api.Set, R: 3, S: 1, N: n}} }
	key := func(op int, key string) []api.Ins { return []api.Ins{{Op: op, R: 1, S: 2, N: -5, Key: key}} }
	plain := func(op int) []api.Ins { return []api.Ins{{Op: op, R: 3, S: 2, N: -5, Key: "No Key"}} }
	b, want := book(t), ""
	for i, c := range []struct {
		code  []api.Ins
		entry string
	}{
		{set(0), "530b00 0003010000000000000000 d3f1"},
		{set(1), "530b00 0003010100000000000000 7d9b"},
		{set(-1), "530b00 000301ffffffffffffffff d724"},
		{set(-2), "530b00 000301feffffffffffffff 2d7b"},
		{set(255), "530b00 000301ff00000000000000 1fed"},
		{set(256), "530b00 0003010001000000000000 6588"},
		{set(-256), "530b00 00030100ffffffffffffff 8b29"},
		{set(math.MaxInt64), "530b00 000301ffffffffffffff7f 5724"},
		{set(math.MinInt64), "530b00 0003010000000000000080 53f2"},
		{set(0x0102030405060708), "530b00 0003010807060504030201 39a3"},
		{[]api.Ins{{Op: api.Jump, R: 2, S: 3, Key: "No Key"}}, "530b00 0902030000000000000000 86d0"},
		{padded(20, api.Ins{Op: api.Jump, R: 2, S: 3, N: 19}), "534400 0902031300000000000000" + strings.Repeat("0a0000", 19) + "f40c"},
		{key(api.Get, "a"), "530500 0101020161 f5d1"},
		{key(api.Has, "zz"), "530600 020102027a7a 563b"},
		{key(api.Put, "abc"), "530700 03010203616263 deff"},
		{key(api.Del, "zyxw"), "530800 040102047a797877 7591"},
		{plain(api.Add), "530300 050302 6bc7"},
		{plain(api.Sub), "530300 060302 abd5"},
		{plain(api.Mul), "530300 070302 ebe3"},
		{plain(api.Div), "530300 080302 2bf2"},
		{plain(api.Out), "530300 0a0302 ba0e"},
		{plain(api.Fail), "530300 0b0302 fa1c"},
		{slices.Repeat([]api.Ins{{Op: api.Set, N: -1}}, 20), "53dc00" + strings.Repeat("000000ffffffffffffffff", 20) + "bfdd"},
	} {
		accept(t, b, i+1, c.code)
		want += bytesOf(t, strings.ReplaceAll(c.entry, " ", ""))
		if log := b.Log(); log != want {
			t.Fatalf("Log behind Submit(%v) = %x, want %x", c.code, log, want)
		}
	}
}

func TestP5FullBook(t *testing.T) {
	b := book(t)
	for number := 1; number <= 60; number++ {
		accept(t, b, number, []api.Ins{{Op: api.Out, R: 3, S: 2}})
	}
	refuse(t, b, api.ErrFull, []api.Ins{{Op: api.Out, R: 3, S: 2}})
	if want := strings.Repeat(bytesOf(t, "5303000a0302ba0e"), 60); b.Log() != want {
		t.Errorf("Log of a full book = %x, want %x", b.Log(), want)
	}
}

func TestP5EntriesOfBatches(t *testing.T) {
	program, batch := bytesOf(t, "5303000a0302ba0e"), bytesOf(t, "4200009660")
	code := []api.Ins{{Op: api.Out, R: 3, S: 2}}
	b, want := bookOf(t, 2, 2), ""
	tells := func(behind string) {
		t.Helper()
		if log := b.Log(); log != want {
			t.Errorf("Log behind %s = %x, want %x", behind, log, want)
		}
	}
	b.Batch()
	tells("a batch of nothing")
	b.Flush()
	tells("Flush of nothing")
	accept(t, b, 1, code)
	accept(t, b, 2, code)
	accept(t, b, 3, code)
	b.Batch()
	want += strings.Repeat(program, 3) + batch
	tells("three programs and a batch")
	accept(t, b, 4, code)
	accept(t, b, 5, code)
	b.Flush()
	want += strings.Repeat(program, 2) + batch + batch
	tells("two programs more and Flush")
	b.Batch()
	b.Flush()
	refuse(t, b, api.ErrProc, nil)
	tells("batches of nothing")
	b.All()
	b.Get("a")
	b.Result(1)
	tells("calls that tell")
	accept(t, b, 6, code)
	b.Batch()
	want += program + batch
	tells("a program and a batch")
}

// A batch is told as often as it is run, however few it decides, and though all fail.
func TestP5EntryOfEachBatch(t *testing.T) {
	batch := bytesOf(t, "4200009660")
	b := bookWith(t, 8, counter(), counter(), code(fail()), counter())
	programs := b.Log()
	for n := 1; n <= 3; n++ {
		b.Batch()
		if want := programs + strings.Repeat(batch, n); b.Log() != want {
			t.Errorf("Log behind %d batches = %x, want %x", n, b.Log(), want)
		}
	}
	b = bookWith(t, 8, code(fail()))
	programs = b.Log()
	b.Flush()
	if b.Log() != programs+batch {
		t.Errorf("Log behind a batch that fails = %x", b.Log())
	}
}

// Behind Replay the log goes on where the entries that were done end.
func TestP5LogBehindReplay(t *testing.T) {
	program, batch := bytesOf(t, "5303000a0302ba0e"), bytesOf(t, "4200009660")
	code := []api.Ins{{Op: api.Out, R: 3, S: 2}}
	for _, tail := range []string{"", program[:7], batch[:4], "no entry", "X" + batch[1:] + program, batch} {
		b, want := replay(t, program+batch+tail, 2, 2), program+batch
		tells := func(behind string) {
			t.Helper()
			if log := b.Log(); log != want {
				t.Errorf("Log behind %s = %x, want %x", behind, log, want)
			}
		}
		tells("Replay")
		b.Batch()
		b.Flush()
		tells("batches of nothing")
		accept(t, b, 2, code)
		refuse(t, b, api.ErrProc, nil)
		want += program
		tells("a program")
		b.Batch()
		want += batch
		tells("a batch")
		accept(t, b, 3, code)
		accept(t, b, 4, code)
		accept(t, b, 5, code)
		b.Flush()
		want += program + program + program + batch + batch
		tells("Flush")
	}
}

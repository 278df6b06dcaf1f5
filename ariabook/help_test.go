package ariabook_test

import (
	"encoding/hex"
	"math"
	"slices"
	"testing"

	"ariabook/api"
	"ariabook/ariabook"
)

// edges are the numbers at which a bound may be off by one, or an arithmetic go round.
func edges() []int {
	return []int{math.MinInt, math.MinInt + 1, math.MinInt32, -256, -1, 0, 1, 2, 3, 4, 5, 6, 8, 9, 11, 12, 19, 20, 21, 60, 61, 255, 256, 257, math.MaxInt32, math.MaxUint32, math.MaxInt - 1, math.MaxInt}
}

// book is a new book; its bounds are of no matter to the test.
func book(t *testing.T) *ariabook.Book {
	t.Helper()
	return bookOf(t, 3, 2)
}

func bookOf(t *testing.T, batch, workers int) *ariabook.Book {
	t.Helper()
	b, e := ariabook.New(batch, workers)
	if b == nil || e != api.OK {
		t.Fatalf("New(%d, %d) = %v, %d", batch, workers, b, e)
	}
	return b
}

// padded is a program of that length that begins with ins.
func padded(length int, ins ...api.Ins) []api.Ins {
	for len(ins) < length {
		ins = append(ins, api.Ins{Op: api.Out})
	}
	return ins
}

// accept hands code in, which must be taken, under that number.
func accept(t *testing.T, b *ariabook.Book, number int, code []api.Ins) {
	t.Helper()
	if id, e := b.Submit(code); id != number || e != api.OK {
		t.Errorf("Submit(%.200v) = %d, %d, want %d, OK", code, id, e, number)
	}
}

// refuse hands code in, which must be refused with that error and leave the log as it was.
func refuse(t *testing.T, b *ariabook.Book, want api.Errno, code []api.Ins) {
	t.Helper()
	before := b.Log()
	if id, e := b.Submit(code); id != 0 || e != want {
		t.Errorf("Submit(%.200v) = %d, %d, want 0, %d", code, id, e, want)
	}
	if b.Log() != before {
		t.Errorf("Submit(%.200v) was refused and is in the log", code)
	}
}

// fill hands programs in till the book has 60 of them.
func fill(t *testing.T, b *ariabook.Book, from int) {
	t.Helper()
	for number := from; number <= 60; number++ {
		accept(t, b, number, []api.Ins{{Op: api.Set, N: number}})
	}
}

// bytesOf are the bytes that are written out in hex.
func bytesOf(t *testing.T, text string) string {
	t.Helper()
	s, err := hex.DecodeString(text)
	if err != nil {
		t.Fatal(err)
	}
	return string(s)
}

// mixed are programs with every kind of instruction.
func mixed() [][]api.Ins {
	return [][]api.Ins{
		{{Op: api.Set, R: 3, N: math.MinInt}, {Op: api.Put, R: 3, Key: "abcd"}},
		{{Op: api.Get, Key: "x"}, {Op: api.Has, R: 1, Key: "xy"}, {Op: api.Del, Key: "xyz"}, {Op: api.Jump, N: 3}},
		{{Op: api.Add, S: 1}, {Op: api.Sub, R: 1}, {Op: api.Mul, R: 2, S: 2}, {Op: api.Div, S: 3}},
		slices.Repeat([]api.Ins{{Op: api.Fail}}, 20),
	}
}

package ariabook_test

import (
	"slices"
	"testing"

	"ariabook/api"
)

func TestP8WholeAnswer(t *testing.T) {
	b := bookWith(t, 4, code(set(0, 5), put("x", 0), out(0)), code(get(0, "x"), fail()), code(set(0, -3), out(0), put("y", 0)), code(put("x", 0)), code(get(0, "x"), out(0)))
	for _, want := range [][]api.Done{
		{{ID: 2, Batch: 1, Outcome: 2}, {ID: 1, Batch: 1, Outcome: 1, Output: 5}, {ID: 3, Batch: 1, Outcome: 1, Output: -3}},
		{{ID: 5, Batch: 2, Outcome: 1, Output: 5}, {ID: 4, Batch: 2, Outcome: 1}},
		nil,
	} {
		if l := b.Batch(); !slices.Equal(l, want) {
			t.Errorf("Batch = %v, want %v", l, want)
		}
	}
	holds(t, b, api.Pair{Key: "x"}, api.Pair{Key: "y", Number: -3})
}

func TestP8Order(t *testing.T) {
	write, read := code(put("w", 0)), code(get(0, "w"))
	free := code(get(0, "free"))
	for _, c := range []struct {
		programs [][]api.Ins
		want     string
	}{
		{[][]api.Ins{write, read, read, read, read, read, read, read}, " 8+0 7+0 6+0 5+0 4+0 3+0 2+0 1+0"},
		{[][]api.Ins{free, free, free, free, free, free, free, free}, " 1+0 2+0 3+0 4+0 5+0 6+0 7+0 8+0"},
		{[][]api.Ins{read, write, read, free, read, free, read, free}, " 7+0 5+0 3+0 1+0 2+0 4+0 6+0 8+0"},
		{[][]api.Ins{free, free, write, free, free, read}, " 6+0 1+0 2+0 3+0 4+0 5+0"},
		{[][]api.Ins{read, write}, " 1+0 2+0"},
		// those that failed stand in the same order
		{[][]api.Ins{code(put("w", 0)), code(get(0, "w"), fail()), code(fail()), code(get(0, "w")), code(div(0, 0))}, " 4+0 2-0 1+0 3-0 5-0"},
		// those that wait are not told
		{[][]api.Ins{write, read, write, read, write}, " 4+0 2+0 1+0"},
	} {
		allBatchesBegin(t, c.programs, c.want)
	}
}

// allBatchesBegin runs a batch of eight of the programs, for all numbers of workers, and holds what it tells against want.
func allBatchesBegin(t *testing.T, programs [][]api.Ins, want string) {
	t.Helper()
	for workers := 1; workers <= 5; workers++ {
		b := bookOf(t, 8, workers)
		handIn(t, b, programs...)
		batchTells(t, b, want)
	}
}

func TestP8BatchNumbers(t *testing.T) {
	b := bookWith(t, 2, counter(), counter(), counter(), code(out(0)), code(fail()))
	var numbers []int
	for range 10 {
		for _, d := range b.Batch() {
			numbers = append(numbers, d.ID, d.Batch)
		}
	}
	if want := []int{1, 1, 2, 2, 3, 3, 4, 3, 5, 4}; !slices.Equal(numbers, want) {
		t.Errorf("programs and their batches: %v, want %v", numbers, want)
	}
}

// What one that goes on waiting has put is not done, nor what one that fails has put.
func TestP8WhatIsDone(t *testing.T) {
	b := bookWith(t, 4, code(set(0, 1), put("a", 0), put("b", 0)), code(set(0, 2), put("b", 0), put("c", 0), out(0)), code(set(0, 3), put("d", 0), out(0), fail()), code(set(0, 4), put("e", 0)))
	batchTells(t, b, " 1+0 3-0 4+0")
	one := []api.Pair{{Key: "a", Number: 1}, {Key: "b", Number: 1}, {Key: "e", Number: 4}}
	holds(t, b, one...)
	batchTells(t, b, " 2+2")
	holds(t, b, one[0], api.Pair{Key: "b", Number: 2}, api.Pair{Key: "c", Number: 2}, one[2])
	handIn(t, b, code(del("a"), del("zz")), code(set(0, 9), put("b", 0)), code(del("c")), code(del("e"), fail()))
	batchTells(t, b, " 5+0 6+0 7+0 8-0")
	holds(t, b, api.Pair{Key: "b", Number: 9}, one[2])
}

package ariabook_test

import (
	"fmt"
	"math/big"
	"math/rand/v2"
	"testing"

	"ariabook/api"
	"ariabook/ariabook"
)

// sumOf is an entry's sum once more, of a number as great as it comes, taken modulo 65521 at the end alone.
func sumOf(bytes string) int {
	s := big.NewInt(1)
	for i := range len(bytes) {
		s.Mul(s, big.NewInt(263))
		s.Add(s, big.NewInt(int64(bytes[i])+1))
	}
	return int(s.Mod(s, big.NewInt(65521)).Int64())
}

// pair is a number in two bytes.
func pair(n int) string {
	return string([]byte{byte(n), byte(n >> 8)})
}

// entry is a whole entry, whatever its kind and payload are.
func entry(kind, payload string) string {
	front := kind + pair(len(payload)) + payload
	return front + pair(sumOf(front))
}

// Payloads, written out.
const (
	outBytes   = "\x0a\x00\x00"                                                  // Out 0
	putX       = "\x03\x00\x00\x01x"                                             // Put x 0
	countBytes = "\x01\x00\x00\x01x" + setOne + "\x05\x00\x01" + putX + outBytes // as counter
	setOne     = "\x00\x01\x00\x01\x00\x00\x00\x00\x00\x00\x00"                  // Set 1 1
)

// replay makes a book of the log, which must be made.
func replay(t *testing.T, log string, batch, workers int) *ariabook.Book {
	t.Helper()
	b, e := ariabook.Replay(log, batch, workers)
	if b == nil || e != api.OK {
		t.Fatalf("Replay(%.100x, %d, %d) = %v, %d", log, batch, workers, b, e)
	}
	return b
}

// state writes down all that a book tells, and changes nothing.
func state(b *ariabook.Book) string {
	s := fmt.Sprintf("%x %v", b.Log(), b.All())
	for id := range 62 {
		s += fmt.Sprintln(b.Result(id))
	}
	for _, key := range []string{"x", "a", "aa", "b", "abcd", "z", "none", ""} {
		s += fmt.Sprintln(b.Get(key))
	}
	return s
}

// sameBooks looks whether two books tell the same, and go on telling the same when the same is asked of them.
func sameBooks(t *testing.T, what string, got, want *ariabook.Book) {
	t.Helper()
	if one, other := state(got), state(want); one != other {
		t.Fatalf("%s: the book tells\n%s\nwant\n%s", what, one, other)
	}
	if transcript(got, busy()) != transcript(want, busy()) {
		t.Fatalf("%s: the books go on otherwise", what)
	}
}

// done makes a book and does the steps: a program is handed in, or, where a step is nil, a batch is run.
func done(t *testing.T, batch, workers int, steps [][]api.Ins) *ariabook.Book {
	t.Helper()
	b := bookOf(t, batch, workers)
	for _, code := range steps {
		do(t, b, code)
	}
	return b
}

func do(t *testing.T, b *ariabook.Book, code []api.Ins) {
	t.Helper()
	if code == nil {
		b.Batch()
		return
	}
	handIn(t, b, code)
}

// anySteps are steps by chance. Just ahead of each batch a program is handed in, so that every step writes an entry, whatever the size of the batches is.
func anySteps(chance *rand.Rand, programs int) [][]api.Ins {
	var steps [][]api.Ins
	for range programs {
		steps = append(steps, anyProgram(chance))
		if chance.IntN(3) == 0 {
			steps = append(steps, nil)
		}
	}
	return steps
}

// moment is what a book told behind some of the steps.
type moment struct {
	steps      int
	log, state string
}

// momentsOf does the steps one behind the other, each of which must write an entry, and notes what the book tells ahead of all, and behind each.
func momentsOf(t *testing.T, batch int, steps [][]api.Ins) []moment {
	t.Helper()
	var moments []moment
	b := bookOf(t, batch, 3)
	for n := range len(steps) + 1 {
		moments = append(moments, moment{steps: n, log: b.Log(), state: state(b)})
		if n < len(steps) {
			do(t, b, steps[n])
		}
	}
	return moments
}

// lastWithin is the last moment at which the log had at most that many bytes.
func lastWithin(moments []moment, size int) moment {
	last := moments[0]
	for _, m := range moments {
		if len(m.log) <= size {
			last = m
		}
	}
	return last
}

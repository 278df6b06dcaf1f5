package ariabook_test

import (
	"fmt"
	"slices"
	"testing"

	"ariabook/api"
	"ariabook/ariabook"
)

// code is a program of these instructions.
func code(ins ...api.Ins) []api.Ins { return ins }

func set(r, n int) api.Ins          { return api.Ins{Op: api.Set, R: r, N: n} }
func get(r int, key string) api.Ins { return api.Ins{Op: api.Get, R: r, Key: key} }
func has(r int, key string) api.Ins { return api.Ins{Op: api.Has, R: r, Key: key} }
func put(key string, r int) api.Ins { return api.Ins{Op: api.Put, R: r, Key: key} }
func del(key string) api.Ins        { return api.Ins{Op: api.Del, Key: key} }
func add(r, s int) api.Ins          { return api.Ins{Op: api.Add, R: r, S: s} }
func sub(r, s int) api.Ins          { return api.Ins{Op: api.Sub, R: r, S: s} }
func mul(r, s int) api.Ins          { return api.Ins{Op: api.Mul, R: r, S: s} }
func div(r, s int) api.Ins          { return api.Ins{Op: api.Div, R: r, S: s} }
func jump(r, to int) api.Ins        { return api.Ins{Op: api.Jump, R: r, N: to} }
func out(r int) api.Ins             { return api.Ins{Op: api.Out, R: r} }
func fail() api.Ins                 { return api.Ins{Op: api.Fail} }

// counter adds 1 to x and puts it out.
func counter() []api.Ins {
	return code(get(0, "x"), set(1, 1), add(0, 1), put("x", 0), out(0))
}

// handIn hands programs in, all of which must be taken.
func handIn(t *testing.T, b *ariabook.Book, codes ...[]api.Ins) {
	t.Helper()
	for _, c := range codes {
		if _, e := b.Submit(c); e != api.OK {
			t.Fatalf("Submit(%v) = error %d", c, e)
		}
	}
}

// bookWith is a book of batches of that size in which the programs wait.
func bookWith(t *testing.T, batch int, codes ...[]api.Ins) *ariabook.Book {
	t.Helper()
	b := bookOf(t, batch, 3)
	handIn(t, b, codes...)
	return b
}

// told writes a batch's answer out: " 2+5" is program 2, committed with output 5, " 3-0" is program 3, failed with output 0.
func told(l []api.Done) string {
	s := ""
	for _, d := range l {
		switch d.Outcome {
		case api.Committed:
			s += fmt.Sprintf(" %d+%d", d.ID, d.Output)
		case api.Failed:
			s += fmt.Sprintf(" %d-%d", d.ID, d.Output)
		default:
			s += fmt.Sprintf(" %d?%d", d.ID, d.Outcome)
		}
	}
	return s
}

// batchTells runs a batch and holds its answer against want.
func batchTells(t *testing.T, b *ariabook.Book, want string) {
	t.Helper()
	if got := told(b.Batch()); got != want {
		t.Errorf("Batch tells%s, want%s", got, want)
	}
}

// holds looks whether the book has these pairs and no others, in their order.
func holds(t *testing.T, b *ariabook.Book, pairs ...api.Pair) {
	t.Helper()
	if all := b.All(); !slices.Equal(all, pairs) {
		t.Errorf("All = %v, want %v", all, pairs)
	}
}

// waits hands Result these numbers, all of programs that wait.
func waits(t *testing.T, b *ariabook.Book, ids ...int) {
	t.Helper()
	for _, id := range ids {
		if d, e := b.Result(id); d != (api.Done{}) || e != api.ErrWaits {
			t.Errorf("Result(%d) = %v, %d, want nothing, ErrWaits", id, d, e)
		}
	}
}

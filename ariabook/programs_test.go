package ariabook_test

import (
	"math"
	"slices"
	"testing"

	"ariabook/api"
)

// runs hands the program in to a book with x 7 and y -2 and holds against want what its batch tells of it, as program 2, and against pairs what is in the book behind it.
func runs(t *testing.T, program []api.Ins, want string, pairs ...api.Pair) {
	t.Helper()
	b := bookWith(t, 1, code(set(0, 7), put("x", 0), set(0, -2), put("y", 0)), program)
	b.Batch()
	if got := told(b.Batch()); got != want {
		t.Errorf("%v is told as%s, want%s", program, got, want)
	}
	if all := b.All(); !slices.Equal(all, pairs) {
		t.Errorf("behind %v there is %v, want %v", program, all, pairs)
	}
}

// answers runs a program that changes nothing and must put that out.
func answers(t *testing.T, output int, program ...api.Ins) {
	t.Helper()
	runs(t, program, told([]api.Done{{ID: 2, Outcome: api.Committed, Output: output}}), api.Pair{Key: "x", Number: 7}, api.Pair{Key: "y", Number: -2})
}

// fails runs a program that must fail, and so change nothing.
func fails(t *testing.T, program ...api.Ins) {
	t.Helper()
	runs(t, program, " 2-0", api.Pair{Key: "x", Number: 7}, api.Pair{Key: "y", Number: -2})
}

// leaves runs a program that must end with output 0 and leave these pairs.
func leaves(t *testing.T, program []api.Ins, pairs ...api.Pair) {
	t.Helper()
	runs(t, program, " 2+0", pairs...)
}

func TestProgramBeginsWithZeros(t *testing.T) {
	for r := range 4 {
		answers(t, 0, out(r))
	}
	answers(t, 0, set(0, 5))
	b := bookWith(t, 1, code(set(0, 1), set(1, 2), set(2, 3), set(3, 4), out(3)), code(out(0)), code(out(1)), code(out(2)), code(out(3)), code(set(0, 9)))
	for _, want := range []string{" 1+4", " 2+0", " 3+0", " 4+0", " 5+0", " 6+0"} {
		batchTells(t, b, want)
	}
}

func TestProgramSet(t *testing.T) {
	for _, n := range edges() {
		for r := range 4 {
			answers(t, n, set(r, n), out(r))
			answers(t, 0, set(r, n), out((r+1)%4))
		}
	}
}

func TestProgramGet(t *testing.T) {
	for r := range 4 {
		answers(t, 7, get(r, "x"), out(r))
		answers(t, -2, get(r, "y"), out(r))
		answers(t, 0, set(r, 5), get(r, "z"), out(r))
		answers(t, 0, set(r, 5), get(r, "xx"), out(r))
		answers(t, 0, get(r, "x"), out((r+1)%4))
	}
	runs(t, code(set(0, 5), put("x", 0), get(1, "x"), out(1)), " 2+5", api.Pair{Key: "x", Number: 5}, api.Pair{Key: "y", Number: -2})
	runs(t, code(set(1, 5), del("x"), get(1, "x"), out(1)), " 2+0", api.Pair{Key: "y", Number: -2})
	runs(t, code(set(0, 5), put("x", 0), del("x"), set(0, 6), put("x", 0), get(1, "x"), out(1)), " 2+6", api.Pair{Key: "x", Number: 6}, api.Pair{Key: "y", Number: -2})
}

func TestProgramHas(t *testing.T) {
	for r := range 4 {
		answers(t, 1, has(r, "x"), out(r))
		answers(t, 0, set(r, 5), has(r, "z"), out(r))
		answers(t, 0, set(r, 5), has(r, "xx"), out(r))
		answers(t, 0, has(r, "x"), out((r+1)%4))
	}
	x, y := api.Pair{Key: "x", Number: 7}, api.Pair{Key: "y", Number: -2}
	runs(t, code(put("z", 0), has(0, "z"), out(0)), " 2+1", x, y, api.Pair{Key: "z"})
	runs(t, code(del("x"), set(0, 5), has(0, "x"), out(0)), " 2+0", y)
	runs(t, code(del("z"), set(0, 5), has(0, "z"), out(0)), " 2+0", x, y)
	b := bookWith(t, 1, code(put("x", 0)), code(has(0, "x"), out(0)))
	b.Batch()
	batchTells(t, b, " 2+1") // 0 is a number too
}

func TestProgramPutAndDel(t *testing.T) {
	x, y := api.Pair{Key: "x", Number: 7}, api.Pair{Key: "y", Number: -2}
	for r := range 4 {
		leaves(t, code(set(r, 8), put("x", r)), api.Pair{Key: "x", Number: 8}, y)
		leaves(t, code(set(r, 8), put("x", (r+1)%4)), api.Pair{Key: "x"}, y)
	}
	for _, n := range edges() {
		leaves(t, code(set(2, n), put("abcd", 2)), api.Pair{Key: "abcd", Number: n}, x, y)
	}
	leaves(t, code(set(0, 8), put("z", 0), set(0, 9)), x, y, api.Pair{Key: "z", Number: 8})
	leaves(t, code(set(0, 8), put("z", 0), set(0, 9), put("z", 0)), x, y, api.Pair{Key: "z", Number: 9})
	leaves(t, code(del("x")), y)
	leaves(t, code(del("x"), del("x")), y)
	leaves(t, code(del("x"), del("y")))
	leaves(t, code(del("z"), del("xx"), del("a")), x, y)
	leaves(t, code(put("z", 0), del("z")), x, y)
	leaves(t, code(del("x"), put("x", 0)), api.Pair{Key: "x"}, y)
	leaves(t, code(put("x", 0), del("x")), y)
	leaves(t, code(del("y"), set(0, 3), put("y", 0), del("x"), put("x", 0), del("x")), api.Pair{Key: "y", Number: 3})
}

// calculates runs op on the two numbers, in all pairs of registers that differ, and looks that the second register is as it was.
func calculates(t *testing.T, op func(r, s int) api.Ins, a, b, want int) {
	t.Helper()
	for r := range 4 {
		for s := range 4 {
			if r != s {
				answers(t, want, set(r, a), set(s, b), op(r, s), out(r))
				answers(t, b, set(r, a), set(s, b), op(r, s), out(s))
			}
		}
	}
}

func TestProgramAddSubMul(t *testing.T) {
	const least, greatest = math.MinInt64, math.MaxInt64
	for _, c := range []struct{ a, b, sum, difference, product int }{
		{0, 0, 0, 0, 0},
		{7, 3, 10, 4, 21},
		{3, 7, 10, -4, 21},
		{-7, 3, -4, -10, -21},
		{-7, -3, -10, -4, 21},
		{greatest, 1, least, greatest - 1, greatest},
		{least, 1, least + 1, greatest, least},
		{least, -1, greatest, least + 1, least},
		{least, least, 0, 0, 0},
		{greatest, greatest, -2, 0, 1},
		{greatest, least, -1, -1, least},
		{0, least, least, least, 0},
		{1 << 62, 2, 1<<62 + 2, 1<<62 - 2, least},
		{1 << 62, 4, 1<<62 + 4, 1<<62 - 4, 0},
		{1<<32 + 1, 1<<32 + 1, 1<<33 + 2, 0, 1<<33 + 1},
		{-1, 1 << 62, 1<<62 - 1, -1<<62 - 1, -1 << 62},
	} {
		calculates(t, add, c.a, c.b, c.sum)
		calculates(t, sub, c.a, c.b, c.difference)
		calculates(t, mul, c.a, c.b, c.product)
	}
	for r := range 4 {
		answers(t, 10, set(r, 5), add(r, r), out(r))
		answers(t, 0, set(r, 5), sub(r, r), out(r))
		answers(t, 25, set(r, 5), mul(r, r), out(r))
	}
}

func TestProgramDiv(t *testing.T) {
	const least, greatest = math.MinInt64, math.MaxInt64
	for _, c := range []struct{ a, b, want int }{
		{6, 3, 2}, {7, 2, 3}, {-7, 2, -3}, {7, -2, -3}, {-7, -2, 3}, {1, 2, 0}, {-1, 2, 0}, {0, 5, 0}, {0, -5, 0}, {2, 3, 0}, {5, 1, 5}, {5, -1, -5},
		{least, -1, least}, {least, 1, least}, {least, least, 1}, {least, greatest, -1}, {greatest, least, 0}, {greatest, -1, -greatest}, {least + 1, -1, greatest}, {least, 2, -1 << 62}, {greatest, 2, 1<<62 - 1},
	} {
		calculates(t, div, c.a, c.b, c.want)
	}
	for _, n := range []int{0, 1, -1, least, greatest} {
		for r := range 4 {
			for s := range 4 {
				fails(t, set(r, n), set(s, 0), div(r, s), out(r))
			}
		}
	}
	for r := range 4 {
		answers(t, 1, set(r, -5), div(r, r), out(r))
	}
}

func TestProgramJump(t *testing.T) {
	for r := range 4 {
		for _, n := range []int{1, -1, 256, 1 << 32, math.MinInt, math.MaxInt} {
			answers(t, n, set(r, n), jump(r, 3), fail(), out(r))
		}
		answers(t, 3, set(r, 0), jump(r, 4), set(r, 3), out(r), out((r+1)%4), out(r))
		answers(t, 3, set((r+1)%4, 1), jump(r, 3), set(r, 3), out(r))
	}
	// back: 1 and 2 and 3 and 4, as register 2 counts down from 4
	answers(t, 10, set(2, 4), set(1, 1), add(0, 2), sub(2, 1), jump(2, 2), out(0))
	answers(t, 5, set(0, 5), out(0), jump(1, 0))
	// to the first, once: register 1 is 1 the second time
	answers(t, 1, out(1), set(0, 1), sub(0, 1), set(1, 1), jump(0, 0))
	fails(t, set(0, 1), jump(0, 1))
	fails(t, set(0, 1), jump(0, 0))
}

func TestProgramOut(t *testing.T) {
	answers(t, 9, set(0, 9), out(0), set(0, 8))
	answers(t, 8, set(0, 9), out(0), set(0, 8), out(0))
	answers(t, 0, set(0, 9), out(0), out(1))
	answers(t, math.MinInt, set(3, math.MinInt), out(3))
}

func TestProgramFail(t *testing.T) {
	fails(t, fail())
	fails(t, set(0, 3), out(0), put("a", 0), put("x", 0), del("y"), fail())
	fails(t, set(0, 3), out(0), put("a", 0), put("x", 0), del("y"), div(0, 1))
	answers(t, 0, jump(0, 0))
	answers(t, 1, set(0, 1), out(0), jump(0, 4), fail(), set(0, 0))
	fails(t, fail(), set(0, 3), out(0), put("x", 0))
}

// ofSteps is a program that does that many steps (from 98 to 114) and then the last ones.
func ofSteps(steps int, last ...api.Ins) []api.Ins {
	program := code(set(0, 48), set(1, 1), sub(0, 1), jump(0, 2)) // 2, and 48 times 2
	for range steps - 98 {
		program = append(program, set(3, 5))
	}
	return append(program, last...)
}

func TestProgramSteps(t *testing.T) {
	x, y := api.Pair{Key: "x", Number: 7}, api.Pair{Key: "y", Number: -2}
	answers(t, 1, ofSteps(98, out(1))...)
	answers(t, 1, ofSteps(99, out(1))...)
	answers(t, 1, ofSteps(98, out(1), set(1, 3))...)
	leaves(t, ofSteps(100), x, y)
	leaves(t, ofSteps(99, put("a", 1)), api.Pair{Key: "a", Number: 1}, x, y)
	leaves(t, ofSteps(99, jump(0, 0)), x, y)
	for op := range 12 {
		fails(t, ofSteps(100, api.Ins{Op: op, R: 0, S: 1, Key: "x"})...)
	}
	fails(t, ofSteps(98, out(1), put("a", 1), out(1))...)
	fails(t, ofSteps(99, jump(1, 0))...)
	fails(t, ofSteps(99, jump(1, 5), set(2, 2))...)
	for steps := 101; steps <= 114; steps++ {
		fails(t, ofSteps(steps)...)
	}
	fails(t, set(0, 1), put("x", 0), out(0), jump(0, 0))
}

func TestProgramFourKeysWritten(t *testing.T) {
	x, y := api.Pair{Key: "x", Number: 7}, api.Pair{Key: "y", Number: -2}
	a, b, c, d := api.Pair{Key: "a"}, api.Pair{Key: "b"}, api.Pair{Key: "c"}, api.Pair{Key: "d"}
	leaves(t, code(put("a", 0), put("b", 0), put("c", 0), put("d", 0)), a, b, c, d, x, y)
	leaves(t, code(put("a", 0), put("b", 0), put("c", 0), put("d", 0), put("a", 0), del("d"), put("c", 0), del("b"), put("b", 0)), a, b, c, x, y)
	leaves(t, code(put("x", 0), put("x", 0), del("x"), del("x"), put("x", 0), put("x", 0)), api.Pair{Key: "x"}, y)
	leaves(t, code(del("a"), del("b"), del("c"), del("d"), del("a"), get(0, "e"), has(0, "e")), x, y)
	fails(t, put("a", 0), put("b", 0), put("c", 0), put("d", 0), put("e", 0))
	fails(t, put("a", 0), put("b", 0), put("c", 0), put("d", 0), del("e"))
	fails(t, del("a"), del("b"), del("c"), del("d"), del("e"))
	fails(t, del("a"), del("b"), del("c"), del("d"), put("x", 0))
	fails(t, put("a", 0), del("a"), put("b", 0), del("b"), put("c", 0), put("d", 0), del("d"), put("e", 0), del("e"))
	fails(t, put("a", 0), put("aa", 0), put("aaa", 0), put("aaaa", 0), put("b", 0))
}

// hasRead looks whether the program, behind one that writes y and ahead of one that reads y and writes key, has read key: then that one has a read flag and a wait flag, and waits.
func hasRead(t *testing.T, key string, program []api.Ins, want bool) {
	t.Helper()
	b := bookWith(t, 3, code(put("y", 0)), program, code(get(0, "y"), put(key, 0)))
	b.Batch()
	if _, e := b.Result(3); (e == api.ErrWaits) != want {
		t.Errorf("%v has read %s: %v, want %v", program, key, !want, want)
	}
}

// hasWritten looks whether the program has written key: then one behind it that writes it, too, waits.
func hasWritten(t *testing.T, key string, program []api.Ins, want bool) {
	t.Helper()
	b := bookWith(t, 2, program, code(put(key, 0)))
	b.Batch()
	if _, e := b.Result(2); (e == api.ErrWaits) != want {
		t.Errorf("%v has written %s: %v, want %v", program, key, !want, want)
	}
}

func TestProgramReads(t *testing.T) {
	hasRead(t, "x", code(get(0, "x")), true)
	hasRead(t, "x", code(has(0, "x")), true)
	hasRead(t, "x", code(get(0, "a"), get(0, "b"), get(0, "a"), has(0, "x")), true)
	hasRead(t, "a", code(get(0, "a"), get(0, "b"), get(0, "a"), has(0, "x")), true)
	hasRead(t, "x", code(get(0, "xx"), get(0, "a")), false)
	hasRead(t, "x", code(out(0)), false)
	hasRead(t, "x", code(jump(0, 1), set(0, 1), jump(0, 4), get(0, "x"), out(0)), false)
	for _, own := range []api.Ins{put("b", 0), del("b")} {
		hasRead(t, "a", code(get(0, "a"), own), true)
		hasRead(t, "a", code(own, get(0, "a")), true)
		// of one that fails: else its write alone would make the other wait
		hasRead(t, "b", code(own, get(0, "b"), fail()), false)
		hasRead(t, "b", code(own, has(0, "b"), fail()), false)
		hasRead(t, "b", code(has(0, "b"), own, fail()), true)
		hasRead(t, "b", code(get(0, "b"), own, get(0, "b"), fail()), true)
	}
}

func TestProgramWrites(t *testing.T) {
	hasWritten(t, "x", code(put("x", 0)), true)
	hasWritten(t, "x", code(del("x")), true)
	hasWritten(t, "x", code(put("x", 0), del("x")), true)
	hasWritten(t, "d", code(put("a", 0), put("b", 0), del("c"), put("d", 0)), true)
	hasWritten(t, "a", code(put("a", 0), put("b", 0), del("c"), put("d", 0)), true)
	hasWritten(t, "x", code(put("xx", 0), get(0, "x"), has(0, "x")), false)
	hasWritten(t, "x", code(set(0, 1), jump(0, 3), put("x", 0), out(0)), false)
}

// One that fails has read what it read by then, and writes nothing.
func TestProgramThatFailedReadsAndWrites(t *testing.T) {
	four := code(put("a", 0), put("b", 0), put("c", 0), put("d", 0), get(0, "z"))
	for _, c := range []struct {
		failing []api.Ins
		reads   string
		unread  string
		written string
	}{
		{code(get(0, "z"), put("a", 0), fail(), get(0, "u")), "z", "u", "a"},
		{code(has(0, "z"), del("a"), div(0, 1), get(0, "u")), "z", "u", "a"},
		{code(put("a", 0), get(0, "z"), div(0, 1), get(0, "u")), "z", "u", "a"},
		{slices.Concat(four, code(put("e", 0), get(0, "u"))), "z", "u", "e"},
		{slices.Concat(four, code(put("e", 0), get(0, "u"))), "z", "u", "a"},
		{code(get(2, "z"), put("a", 3), set(2, 1), jump(2, 2), get(0, "u")), "z", "u", "a"},
		{ofSteps(98, put("a", 0), get(2, "z"), get(2, "u")), "z", "u", "a"},
		{ofSteps(99, has(2, "z"), has(2, "u")), "z", "u", "u"},
	} {
		hasRead(t, c.reads, c.failing, true)
		hasRead(t, c.unread, c.failing, false)
		hasWritten(t, c.written, c.failing, false)
		b := bookWith(t, 1, c.failing)
		batchTells(t, b, " 1-0")
		holds(t, b)
	}
}

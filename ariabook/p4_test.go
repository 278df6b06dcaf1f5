package ariabook_test

import (
	"math"
	"strings"
	"testing"

	"ariabook/api"
)

// bounded hands programs in with one thing at each of the edges: those from least to greatest are taken, the others not.
func bounded(t *testing.T, what string, least, greatest int, with func(n int) []api.Ins) {
	t.Helper()
	for _, n := range append(edges(), least-1, least, greatest, greatest+1) {
		want, number := api.ErrProc, 0
		if least <= n && n <= greatest {
			want, number = api.OK, 1
		}
		if id, e := book(t).Submit(with(n)); id != number || e != want {
			t.Errorf("%s %d: Submit = %d, %d, want %d, %d", what, n, id, e, number, want)
		}
	}
}

func TestP4Length(t *testing.T) {
	for length := range 300 {
		b := book(t)
		if length >= 1 && length <= 20 {
			accept(t, b, 1, padded(length))
		} else {
			refuse(t, b, api.ErrProc, padded(length))
		}
	}
	refuse(t, book(t), api.ErrProc, nil)
}

func TestP4Op(t *testing.T) {
	bounded(t, "Op", 0, 11, func(n int) []api.Ins { return []api.Ins{{Op: n, Key: "k"}} })
}

func TestP4Registers(t *testing.T) {
	for op := range 12 {
		bounded(t, "R", 0, 3, func(n int) []api.Ins { return []api.Ins{{Op: op, R: n, Key: "k"}} })
		bounded(t, "S", 0, 3, func(n int) []api.Ins { return []api.Ins{{Op: op, S: n, Key: "k"}} })
	}
}

func TestP4JumpN(t *testing.T) {
	for length := 1; length <= 20; length++ {
		bounded(t, "N of Jump", 0, length-1, func(n int) []api.Ins { return padded(length, api.Ins{Op: api.Jump, N: n}) })
	}
}

func TestP4Key(t *testing.T) {
	for _, op := range []int{api.Get, api.Has, api.Put, api.Del} {
		for _, key := range []string{"a", "z", "az", "zaz", "abcd", "zzzz"} {
			accept(t, book(t), 1, []api.Ins{{Op: op, Key: key}})
		}
		for _, key := range []string{"", "abcde", "aaaaaaaa", "A", "Z", "aB", "`", "{", "a`", "abc{", "1", "a1", " ", " a", "a ", "\x00", "a\x00", "\x00a", "abc\x00", "abcd\x00", "\n", "é", "aé", "\xff", "ａ", "a-b", strings.Repeat("a", 256), strings.Repeat("a", 257), strings.Repeat("a", 1<<16+1)} {
			refuse(t, book(t), api.ErrProc, []api.Ins{{Op: op, Key: key}})
		}
	}
}

// Each single byte, in each place of a key, on its own: only the letters a to z make one.
func TestP4KeyBytes(t *testing.T) {
	for place := range 4 {
		for c := range 256 {
			key := []byte("kkkk")
			key[place] = byte(c)
			code := []api.Ins{{Op: api.Put, Key: string(key)}}
			if c >= 'a' && c <= 'z' {
				accept(t, book(t), 1, code)
			} else {
				refuse(t, book(t), api.ErrProc, code)
			}
		}
	}
}

func TestP4WhatIsNotNeededMayBeAnything(t *testing.T) {
	anyTexts := texts()
	for op := range 12 {
		plain := api.Ins{Op: op, R: 1, S: 2, Key: "k"}
		needsKey := op == api.Get || op == api.Has || op == api.Put || op == api.Del
		needsN := op == api.Set || op == api.Jump
		want := book(t)
		accept(t, want, 1, []api.Ins{plain})
		for _, n := range edges() {
			for _, key := range anyTexts {
				ins := plain
				if !needsN {
					ins.N = n
				}
				if !needsKey {
					ins.Key = key
				}
				b := book(t)
				accept(t, b, 1, []api.Ins{ins})
				if b.Log() != want.Log() {
					t.Errorf("Op %d, N %d, Key %.20q: bytes are kept of what it does not need", op, ins.N, ins.Key)
				}
			}
		}
	}
	for _, n := range edges() {
		accept(t, book(t), 1, []api.Ins{{Op: api.Set, N: n}})
	}
}

// An instruction is looked at in each place, the last too, though no run may come there.
func TestP4EveryInstructionIsLookedAt(t *testing.T) {
	for length := 1; length <= 20; length++ {
		for place := range length {
			code := padded(length)
			code[place] = api.Ins{Op: api.Jump, N: length}
			refuse(t, book(t), api.ErrProc, code)
			code[place] = api.Ins{Op: api.Del, Key: "Z"}
			refuse(t, book(t), api.ErrProc, code)
			code[place] = api.Ins{Op: api.Fail, S: 4}
			refuse(t, book(t), api.ErrProc, code)
		}
	}
}

func TestP4Numbers(t *testing.T) {
	b := book(t)
	for number := 1; number <= 60; number++ {
		refuse(t, b, api.ErrProc, []api.Ins{{Op: math.MaxInt}})
		accept(t, b, number, mixed()[number%4])
	}
}

func TestP4Full(t *testing.T) {
	b := book(t)
	fill(t, b, 1)
	for range 3 {
		refuse(t, b, api.ErrFull, []api.Ins{{Op: api.Out}})
		refuse(t, b, api.ErrProc, nil)
		refuse(t, b, api.ErrProc, make([]api.Ins, 21))
		refuse(t, b, api.ErrProc, []api.Ins{{Op: api.Get}})
	}
}

func TestP4WaitsBehindAllThatWait(t *testing.T) {
	b := bookOf(t, 1, 1)
	for n := 1; n <= 60; n++ {
		accept(t, b, n, []api.Ins{{Op: api.Set, N: -n}, {Op: api.Out}})
		waits(t, b, n)
		refuse(t, b, api.ErrProc, nil)
	}
	refuse(t, b, api.ErrFull, []api.Ins{{}})
	for n := 1; n <= 60; n++ {
		if l := b.Batch(); len(l) != 1 || l[0].ID != n || l[0].Output != -n {
			t.Errorf("batch %d tells %v", n, l)
		}
	}
	nothingIsDone(t, b)
}

// 60 are all that may be handed in, those that were decided too.
func TestP4FullBehindBatches(t *testing.T) {
	b := bookOf(t, 4, 2)
	for n := 1; n <= 60; n++ {
		accept(t, b, n, counter())
		b.Flush()
	}
	refuse(t, b, api.ErrFull, counter())
	b.Batch()
	refuse(t, b, api.ErrFull, counter())
	refuse(t, b, api.ErrProc, nil)
	nothingIsDone(t, b)
	holds(t, b, api.Pair{Key: "x", Number: 60})
}

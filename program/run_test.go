package program

import (
	"math"
	"slices"
	"testing"

	"ariabook/api"
	"ariabook/keys"
	"ariabook/numbers"
)

// runOf runs code on a book with a 5.
func runOf(t *testing.T, code ...api.Ins) Run {
	t.Helper()
	p, ok := Of(code)
	if !ok {
		t.Fatalf("%v is no program", code)
	}
	a := keys.Of("a")
	book := numbers.Numbers{a: 5}
	run := p.Run(book)
	if len(book) != 1 || book[a] != 5 {
		t.Errorf("%v wrote into the book: %v", code, book)
	}
	return run
}

// What is read behind a write of its own is its own, and not read.
func TestReads(t *testing.T) {
	get := func(key string) api.Ins { return api.Ins{Op: api.Get, Key: key} }
	has := func(key string) api.Ins { return api.Ins{Op: api.Has, Key: key} }
	put := func(key string) api.Ins { return api.Ins{Op: api.Put, Key: key} }
	del := func(key string) api.Ins { return api.Ins{Op: api.Del, Key: key} }
	for _, c := range []struct {
		code          []api.Ins
		reads, writes []string
	}{
		{[]api.Ins{{Op: api.Out}}, nil, nil},
		{[]api.Ins{get("a"), has("b"), get("a"), has("a")}, []string{"a", "b"}, nil},
		{[]api.Ins{put("a"), get("a"), has("a")}, nil, []string{"a"}},
		{[]api.Ins{del("a"), get("a"), has("a")}, nil, []string{"a"}},
		{[]api.Ins{get("a"), put("a"), get("a"), del("b"), has("b"), has("c")}, []string{"a", "c"}, []string{"a", "b"}},
		{[]api.Ins{put("a"), del("a"), put("a"), put("aa")}, nil, []string{"a", "aa"}},
	} {
		run := runOf(t, c.code...)
		var reads, writes []string
		for _, key := range run.Reads {
			reads = append(reads, key.Text())
		}
		for _, change := range run.Writes {
			writes = append(writes, change.Key.Text())
		}
		if !slices.Equal(reads, c.reads) || !slices.Equal(writes, c.writes) || run.Failed {
			t.Errorf("%v reads %v and writes %v, want %v and %v", c.code, reads, writes, c.reads, c.writes)
		}
		for _, key := range []string{"a", "aa", "b", "c", "d"} {
			if run.DoesRead(keys.Of(key)) != slices.Contains(c.reads, key) || run.DoesWrite(keys.Of(key)) != slices.Contains(c.writes, key) {
				t.Errorf("%v does read %s: %v, does write it: %v", c.code, key, run.DoesRead(keys.Of(key)), run.DoesWrite(keys.Of(key)))
			}
		}
	}
}

func TestWrites(t *testing.T) {
	run := runOf(t, api.Ins{Op: api.Set, R: 1, N: 3}, api.Ins{Op: api.Put, R: 1, Key: "x"}, api.Ins{Op: api.Put, Key: "a"}, api.Ins{Op: api.Del, R: 1, Key: "a"}, api.Ins{Op: api.Del, Key: "y"}, api.Ins{Op: api.Put, R: 1, Key: "y"})
	want := []numbers.Change{{Key: keys.Of("x"), Number: 3}, {Key: keys.Of("a"), Gone: true}, {Key: keys.Of("y"), Number: 3}}
	if !slices.Equal(run.Writes, want) {
		t.Errorf("Writes = %v, want %v", run.Writes, want)
	}
}

// A run that fails gives up in the middle, and nothing comes through to the caller.
func TestFailed(t *testing.T) {
	begin := []api.Ins{{Op: api.Get, R: 2, Key: "a"}, {Op: api.Out, R: 2}, {Op: api.Put, Key: "b"}, {Op: api.Put, Key: "c"}, {Op: api.Put, Key: "d"}, {Op: api.Put, Key: "e"}}
	for _, last := range []api.Ins{{Op: api.Fail}, {Op: api.Div, R: 2, S: 3}, {Op: api.Put, Key: "f"}, {Op: api.Del, Key: "f"}, {Op: api.Jump, R: 2}} {
		run := runOf(t, slices.Concat(begin, []api.Ins{last, {Op: api.Get, Key: "z"}})...)
		if !run.Failed || run.Output != 0 || len(run.Writes) != 0 || !slices.Equal(run.Reads, []keys.Key{keys.Of("a")}) {
			t.Errorf("with %v: %v", last, run)
		}
	}
}

func TestDivide(t *testing.T) {
	for _, c := range [][3]int{{7, 2, 3}, {-7, 2, -3}, {7, -2, -3}, {-7, -2, 3}, {math.MinInt64, -1, math.MinInt64}, {math.MinInt64, 1, math.MinInt64}} {
		if got := divide(c[0], c[1]); got != c[2] {
			t.Errorf("divide(%d, %d) = %d, want %d", c[0], c[1], got, c[2])
		}
	}
}

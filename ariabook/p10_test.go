package ariabook_test

import (
	"slices"
	"testing"

	"ariabook/api"
)

func TestP10Get(t *testing.T) {
	b := bookWith(t, 8, code(set(0, 5), put("a", 0), set(0, -5), put("abcd", 0), put("z", 1)), code(put("gone", 0)), code(put("fail", 0), fail()), code(put("gone", 0), put("wait", 0)))
	b.Batch()
	for _, c := range []api.Pair{{Key: "a", Number: 5}, {Key: "abcd", Number: -5}, {Key: "z", Number: 0}, {Key: "gone", Number: 0}} {
		if n, e := b.Get(c.Key); n != c.Number || e != api.OK {
			t.Errorf("Get(%q) = %d, %d, want %d, OK", c.Key, n, e, c.Number)
		}
	}
	handIn(t, b, code(del("gone"), del("a")))
	b.Flush()
	for _, key := range append(texts(), "gone", "a", "b", "ab", "abc", "aa", "fail", "az", "za", "abcde", "abcd\x00", "z\x00", "z\x00\x00\x00", " z", "Z", "ABCD", "zabcd") {
		if key == "abcd" {
			continue
		}
		if n, e := b.Get(key); n != 0 || e != api.ErrNone {
			t.Errorf("Get(%.20q) = %d, %d, want 0, ErrNone", key, n, e)
		}
	}
}

func TestP10GetEveryNumber(t *testing.T) {
	b := bookOf(t, 1, 1)
	for _, n := range edges() {
		handIn(t, b, code(set(0, n), put("k", 0)))
		b.Batch()
		if got, e := b.Get("k"); got != n || e != api.OK {
			t.Errorf("Get = %d, %d, want %d, OK", got, e, n)
		}
	}
}

func TestP10AllOfNothing(t *testing.T) {
	b := bookWith(t, 1, code(put("a", 0)), code(del("a")))
	holds(t, b)
	b.Batch()
	holds(t, b, api.Pair{Key: "a"})
	b.Batch()
	holds(t, b)
}

func TestP10AllByRisingKeys(t *testing.T) {
	ordered := []string{"a", "aa", "aaa", "aaaa", "aaab", "aaaz", "aab", "aaba", "ab", "aba", "abz", "az", "b", "ba", "bz", "m", "mmmm", "mn", "y", "yzzz", "z", "za", "zaaa", "zz", "zzz", "zzza", "zzzy", "zzzz"}
	for step := 1; step < len(ordered); step++ {
		b := bookOf(t, 8, 3)
		put1 := func(i int) { handIn(t, b, code(set(0, i-7), put(ordered[i], 0))) }
		for from := range step {
			for i := from; i < len(ordered); i += step {
				put1(i)
			}
		}
		b.Flush()
		var want []api.Pair
		for i, key := range ordered {
			want = append(want, api.Pair{Key: key, Number: i - 7})
		}
		for range 3 {
			holds(t, b, want...)
		}
		handIn(t, b, code(del("a"), del("zzzz"), del("m"), del("aaab")))
		b.Flush()
		want = slices.DeleteFunc(want, func(p api.Pair) bool {
			return p.Key == "a" || p.Key == "zzzz" || p.Key == "m" || p.Key == "aaab"
		})
		holds(t, b, want...)
	}
}

// As many keys as a book can have: 60 programs that put four each.
func TestP10AllOfMany(t *testing.T) {
	b := bookOf(t, 8, 5)
	var want []api.Pair
	for i := range 60 {
		var c []api.Ins
		for k := range 4 {
			n := 7 * (4*i + k) % 676
			key := string([]byte{byte('a' + n/26), byte('a' + n%26)})
			c = append(c, set(k, n), put(key, k))
			want = append(want, api.Pair{Key: key, Number: n})
		}
		handIn(t, b, c)
	}
	slices.SortFunc(want, func(p, q api.Pair) int { return p.Number - q.Number })
	b.Flush()
	holds(t, b, want...)
	for _, p := range want {
		if n, e := b.Get(p.Key); n != p.Number || e != api.OK {
			t.Errorf("Get(%q) = %d, %d, want %d", p.Key, n, e, p.Number)
		}
	}
}

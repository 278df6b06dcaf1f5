package numbers

import (
	"maps"
	"slices"
	"testing"

	"ariabook/keys"
)

func TestDo(t *testing.T) {
	a, b, c := keys.Of("a"), keys.Of("b"), keys.Of("c")
	n := Numbers{a: 1, b: 2}
	n.Do(nil)
	if !maps.Equal(n, Numbers{a: 1, b: 2}) {
		t.Errorf("no changes change: %v", n)
	}
	n.Do([]Change{{Key: a, Gone: true}, {Key: b, Number: 5}, {Key: c}})
	if !maps.Equal(n, Numbers{b: 5, c: 0}) {
		t.Errorf("changed: %v", n)
	}
	n.Do([]Change{{Key: a, Gone: true}, {Key: b, Number: 6}, {Key: b, Gone: true}, {Key: c, Gone: true}, {Key: c, Number: -1}})
	if !maps.Equal(n, Numbers{c: -1}) {
		t.Errorf("changed again: %v", n)
	}
}

func TestInOrder(t *testing.T) {
	texts := []string{"a", "aa", "aaaa", "ab", "b", "z", "za", "zzzz"}
	n := Numbers{}
	for i, text := range texts {
		n[keys.Of(text)] = i
	}
	var seen []string
	for key, number := range n.InOrder() {
		if number != len(seen) {
			t.Errorf("%s has %d", key.Text(), number)
		}
		seen = append(seen, key.Text())
	}
	if !slices.Equal(seen, texts) {
		t.Errorf("InOrder gives %v, want %v", seen, texts)
	}
	for range (Numbers{}).InOrder() {
		t.Error("InOrder of nothing gives something")
	}
}

// Whoever ranges may stop.
func TestInOrderStops(t *testing.T) {
	n := Numbers{keys.Of("a"): 1, keys.Of("b"): 2, keys.Of("c"): 3}
	for stop := 1; stop <= 3; stop++ {
		var seen []int
		for _, number := range n.InOrder() {
			seen = append(seen, number)
			if number == stop {
				break
			}
		}
		if len(seen) != stop {
			t.Errorf("stopped at %d, it gave %v", stop, seen)
		}
	}
}

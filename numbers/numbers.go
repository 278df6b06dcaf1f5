// Package numbers: a book's numbers under their keys.
package numbers

import (
	"iter"
	"maps"
	"slices"

	"ariabook/keys"
)

// Numbers are numbers, each under its key.
type Numbers map[keys.Key]int

// Change is what becomes of one key: there is Number under it, or, if it is Gone, none.
type Change struct {
	Key    keys.Key
	Number int
	Gone   bool
}

// Do does the changes, in their order.
func (n Numbers) Do(changes []Change) {
	for _, c := range changes {
		if c.Gone {
			delete(n, c.Key)
		} else {
			n[c.Key] = c.Number
		}
	}
}

// InOrder goes over the numbers by rising keys; the map alone would give them in any order.
func (n Numbers) InOrder() iter.Seq2[keys.Key, int] {
	return func(yield func(keys.Key, int) bool) {
		for _, key := range slices.SortedFunc(maps.Keys(n), keys.Compare) {
			if !yield(key, n[key]) {
				return
			}
		}
	}
}

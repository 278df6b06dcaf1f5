// Package keys: a key as it is held within.
package keys

import (
	"bytes"

	"ariabook/api"
)

// Key is a key's letters, with zero bytes behind them. No letter is zero, so two keys are the same just if their arrays are ==, and Key{} is no key.
type Key [api.MaxKey]byte

// Of gives the text as a key; Key{}, if it is none.
func Of(text string) Key {
	if len(text) > api.MaxKey {
		return Key{}
	}
	var key Key
	for i := range len(text) {
		if text[i] < 'a' || text[i] > 'z' {
			return Key{}
		}
		key[i] = text[i]
	}
	return key
}

// IsNone tells whether it is no key.
func (k Key) IsNone() bool {
	return k == Key{}
}

// Len tells how many letters the key has.
func (k Key) Len() int {
	n := 0
	for n < len(k) && k[n] != 0 {
		n++
	}
	return n
}

// Text gives the key's letters.
func (k Key) Text() string {
	return string(k[:k.Len()])
}

// Compare is below 0, 0 or above 0, as one is ahead of the other, the same or behind it, byte by byte. The zero bytes are below all letters, so a key is ahead of those that begin with it.
func Compare(one, other Key) int {
	return bytes.Compare(one[:], other[:])
}

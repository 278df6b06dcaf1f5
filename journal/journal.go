// Package journal: the entries that a log is made of.
package journal

import "iter"

// The kinds of entries.
const (
	HandedIn = 'S' // a program was handed in
	BatchRun = 'B' // a batch was run
)

// Around an entry's payload stand its kind and length, and its sum.
const (
	headSize = 3
	sumSize  = 2
)

// Entry is an entry that was read: its kind and what it tells.
type Entry struct {
	Kind    byte
	Payload string
}

// Append adds to the log an entry of that kind. A payload has fewer than 2^16 bytes: its length stands in two.
func Append(log []byte, kind byte, payload []byte) []byte {
	start := len(log)
	log = append(log, kind)
	log = appendTwo(log, len(payload))
	log = append(log, payload...)
	return appendTwo(log, sum(log[start:]))
}

// appendTwo adds n in two bytes, the lower first.
func appendTwo(to []byte, n int) []byte {
	return append(to, byte(n%256), byte(n/256))
}

// Entries goes over the log's entries, from the beginning on, up to the first place at which no whole one stands.
func Entries(log string) iter.Seq[Entry] {
	return func(yield func(Entry) bool) {
		rest := log
		for {
			entry, behind, whole := cut(rest)
			if !whole || !yield(entry) {
				return
			}
			rest = behind
		}
	}
}

// cut splits the first entry off; false, if its bytes are not all there, or are not those that its sum was taken of.
func cut(log string) (entry Entry, rest string, whole bool) {
	if len(log) < headSize {
		return Entry{}, "", false
	}
	end := headSize + two(log[1:])
	if len(log) < end+sumSize || two(log[end:]) != sum([]byte(log[:end])) {
		return Entry{}, "", false
	}
	return Entry{Kind: log[0], Payload: log[headSize:end]}, log[end+sumSize:], true
}

// two reads a number of two bytes, the lower first.
func two(from string) int {
	return int(from[0]) + 256*int(from[1])
}

// sum is the sum of an entry's bytes.
func sum(entry []byte) int {
	s := 1
	for _, b := range entry {
		s = (s*263 + int(b) + 1) % 65521
	}
	return s
}

// Package journal: the entries that a log is made of.
package journal

// The kinds of entries.
const (
	HandedIn = 'S' // a program was handed in
	BatchRun = 'B' // a batch was run
)

// Append adds to the log an entry of that kind. A payload has fewer than 2^16 bytes: its length stands in two.
func Append(log []byte, kind byte, payload []byte) []byte {
	start := len(log)
	log = append(log, kind)
	log = appendTwo(log, len(payload))
	log = append(log, payload...)
	return appendTwo(log, sum(log[start:]))
}

// appendTwo adds n in two bytes, the lower first.
func appendTwo(to []byte, n int) []byte {
	return append(to, byte(n%256), byte(n/256))
}

// sum is the sum of an entry's bytes.
func sum(entry []byte) int {
	s := 1
	for _, b := range entry {
		s = (s*263 + int(b) + 1) % 65521
	}
	return s
}

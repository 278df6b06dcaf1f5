package journal

import (
	"bytes"
	"slices"
	"strings"
	"testing"
)

func TestAppend(t *testing.T) {
	for _, c := range []struct {
		kind                 byte
		payload, front, tail string
	}{
		{BatchRun, "", "B\x00\x00", "\x96\x60"},
		{HandedIn, "\x0a\x03\x02", "S\x03\x00", "\xba\x0e"},
		{'X', strings.Repeat("\x00", 256), "X\x00\x01", "\xc0\xa2"},
		{'X', strings.Repeat("\x01", 772), "X\x04\x03", "\x0a\x60"},
	} {
		want := c.front + c.payload + c.tail
		if got := string(Append(nil, c.kind, []byte(c.payload))); got != want {
			t.Errorf("Append(%q, %d bytes) = %x, want %x", c.kind, len(c.payload), got, want)
		}
	}
}

// The sum is of the entry's own bytes, not of those ahead of it.
func TestAppendBehindOthers(t *testing.T) {
	alone := Append(nil, HandedIn, []byte("payload"))
	log := Append(bytes.Clone(alone), HandedIn, []byte("payload"))
	if want := bytes.Repeat(alone, 2); !bytes.Equal(log, want) {
		t.Errorf("two entries = %x, want %x", log, want)
	}
}

// read gives the log's entries, each as a text, and stops behind so many.
func read(log string, atMost int) []string {
	var texts []string
	for entry := range Entries(log) {
		texts = append(texts, string(entry.Kind)+entry.Payload)
		if len(texts) == atMost {
			break
		}
	}
	return texts
}

func TestEntries(t *testing.T) {
	batch, long := "B\x00\x00\x96\x60", "X\x00\x01"+strings.Repeat("\x00", 256)+"\xc0\xa2"
	program := "S\x03\x00\x0a\x03\x02\xba\x0e"
	all := []string{"S\x0a\x03\x02", "B", "X" + strings.Repeat("\x00", 256), "S\x0a\x03\x02"}
	log := program + batch + long + program
	for _, c := range []struct {
		log  string
		want []string
	}{
		{"", nil},
		{log, all},
		{log + "S", all},
		{log[:len(log)-1], all[:3]},
		{log[:len(program)+len(batch)+2], all[:2]},
		{program + "B\x00\x00\x96\x61" + long, all[:1]},
		{program + "B\x00\x00\x97\x60" + long, all[:1]},
		{program + "B\x00\x01\x96\x60" + long, all[:1]},
		{"\x00" + log, nil},
		{"S\xff\xff", nil},
		{strings.Repeat("\xff", 70000), nil},
	} {
		if got := read(c.log, -1); !slices.Equal(got, c.want) {
			t.Errorf("Entries(%.40x) = %.100q, want %.100q", c.log, got, c.want)
		}
	}
	for n := 1; n <= len(all); n++ {
		if got := read(log, n); !slices.Equal(got, all[:n]) {
			t.Errorf("Entries, stopped behind %d = %q", n, got)
		}
	}
}

// Whoever goes over the entries twice begins at the beginning twice.
func TestEntriesTwice(t *testing.T) {
	log := Append(Append(nil, HandedIn, []byte("payload")), BatchRun, nil)
	entries, count := Entries(string(log)), 0
	for range 2 {
		for range entries {
			count++
		}
	}
	if count != 4 {
		t.Errorf("two entries, gone over twice, are %d", count)
	}
}

// What Append wrote is read back, of every length that it can tell.
func TestAppendedIsRead(t *testing.T) {
	for _, length := range []int{0, 1, 2, 254, 255, 256, 257, 511, 512, 65534, 65535} {
		payload := strings.Repeat("p", length)
		log := string(Append(nil, 'X', []byte(payload)))
		if got := read(log+log, -1); !slices.Equal(got, []string{"X" + payload, "X" + payload}) {
			t.Errorf("two entries of %d bytes are read as %.40q", length, got)
		}
		if got := read(log[:len(log)-1], -1); got != nil {
			t.Errorf("an entry of %d bytes, cut off, is read as %.40q", length, got)
		}
	}
}

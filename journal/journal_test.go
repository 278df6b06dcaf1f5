package journal

import (
	"bytes"
	"strings"
	"testing"
)

func TestAppend(t *testing.T) {
	for _, c := range []struct {
		kind                 byte
		payload, front, tail string
	}{
		{BatchRun, "", "B\x00\x00", "\x96\x60"},
		{HandedIn, "\x0a\x03\x02", "S\x03\x00", "\xba\x0e"},
		{'X', strings.Repeat("\x00", 256), "X\x00\x01", "\xc0\xa2"},
		{'X', strings.Repeat("\x01", 772), "X\x04\x03", "\x0a\x60"},
	} {
		want := c.front + c.payload + c.tail
		if got := string(Append(nil, c.kind, []byte(c.payload))); got != want {
			t.Errorf("Append(%q, %d bytes) = %x, want %x", c.kind, len(c.payload), got, want)
		}
	}
}

// The sum is of the entry's own bytes, not of those ahead of it.
func TestAppendBehindOthers(t *testing.T) {
	alone := Append(nil, HandedIn, []byte("payload"))
	log := Append(bytes.Clone(alone), HandedIn, []byte("payload"))
	if want := bytes.Repeat(alone, 2); !bytes.Equal(log, want) {
		t.Errorf("two entries = %x, want %x", log, want)
	}
}

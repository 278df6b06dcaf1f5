package ariabook_test

import (
	"strings"
	"testing"

	"ariabook/api"
)

// The document's examples, one by one.

func TestExampleTwice(t *testing.T) {
	a := code(get(0, "x"), set(1, 1), add(0, 1), put("x", 0))
	b := bookWith(t, 2, a, a)
	batchTells(t, b, " 1+0")
	waits(t, b, 2)
	batchTells(t, b, " 2+0")
	if n, e := b.Get("x"); n != 2 || e != api.OK {
		t.Errorf("x is %d, %d, want 2, OK", n, e)
	}
}

func TestExampleReadFlagAlone(t *testing.T) {
	batchTells(t, bookWith(t, 2, code(put("x", 0)), code(get(0, "x"), out(0))), " 2+0 1+0")
}

func TestExampleWaitFlagAlone(t *testing.T) {
	batchTells(t, bookWith(t, 2, code(get(0, "x")), code(put("x", 0))), " 1+0 2+0")
}

func TestExampleThreeWithFail(t *testing.T) {
	b := bookWith(t, 3, code(put("x", 0)), code(get(0, "x"), put("y", 0)), code(get(0, "y"), fail()))
	batchTells(t, b, " 3-0 2+0 1+0")
	holds(t, b, api.Pair{Key: "x"}, api.Pair{Key: "y"})
}

func TestExampleEntryOfABatch(t *testing.T) {
	b := bookWith(t, 1, code(fail()))
	before := b.Log()
	b.Batch()
	entry := strings.TrimPrefix(b.Log(), before)
	if len(entry) != 5 || !strings.HasPrefix(entry, "\x42\x00\x00") {
		t.Errorf("the entry of a batch is %x", entry)
	}
}

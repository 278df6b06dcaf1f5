package program

import (
	"slices"
	"testing"

	"ariabook/api"
	"ariabook/keys"
)

func TestOfTakesOverWhatIsNeeded(t *testing.T) {
	var code []api.Ins
	var want Program
	for op := range 12 {
		code = append(code, api.Ins{Op: op, R: op % 4, S: 3 - op%4, N: 7, Key: "key"})
		ins := Ins{Op: byte(op), R: byte(op % 4), S: byte(3 - op%4)}
		switch op {
		case api.Set, api.Jump:
			ins.N = 7
		case api.Get, api.Has, api.Put, api.Del:
			ins.Key = keys.Of("key")
		}
		want = append(want, ins)
	}
	p, ok := Of(code)
	if !ok || !slices.Equal(p, want) {
		t.Fatalf("Of = %v, %v, want %v", p, ok, want)
	}
	clear(code)
	if !slices.Equal(p, want) {
		t.Error("Of keeps what the caller may change")
	}
}

func TestOfNone(t *testing.T) {
	for _, code := range [][]api.Ins{nil, {}, make([]api.Ins, 21), {{Op: 12}}, {{R: 4}}, {{S: -1}}, {{Op: api.Jump, N: 1}}, {{}, {Op: api.Get, Key: "K"}}} {
		if p, ok := Of(code); p != nil || ok {
			t.Errorf("Of(%v) = %v, %v", code, p, ok)
		}
	}
}

func TestPayload(t *testing.T) {
	p, _ := Of([]api.Ins{{Op: api.Set, R: 1, S: 2, N: -2}, {Op: api.Put, R: 3, Key: "ab"}, {Op: api.Div, S: 3, N: 9, Key: "x"}, {Op: api.Jump, N: 2}})
	want := "\x00\x01\x02\xfe\xff\xff\xff\xff\xff\xff\xff" + "\x03\x03\x00\x02ab" + "\x08\x00\x03" + "\x09\x00\x00\x02\x00\x00\x00\x00\x00\x00\x00"
	if got := string(p.Payload()); got != want {
		t.Errorf("Payload = %x, want %x", got, want)
	}
}

func TestCode(t *testing.T) {
	for _, c := range []struct {
		payload string
		want    []api.Ins
	}{
		{"", nil},
		{"\x08\x00\x03", []api.Ins{{Op: api.Div, S: 3}}},
		{"\x00\x01\x02\xfe\xff\xff\xff\xff\xff\xff\xff\x03\x03\x00\x02ab", []api.Ins{{Op: api.Set, R: 1, S: 2, N: -2}, {Op: api.Put, R: 3, Key: "ab"}}},
		{"\x09\xff\x00\x08\x07\x06\x05\x04\x03\x02\x01", []api.Ins{{Op: api.Jump, R: 255, N: 0x0102030405060708}}},
		{"\x01\x00\x00\x00\xff\x00\x00", []api.Ins{{Op: api.Get}, {Op: 255}}},
		{"\x02\x00\x00\x06No Key\x04\x00\x00\x01d", []api.Ins{{Op: api.Has, Key: "No Key"}, {Op: api.Del, Key: "d"}}},
	} {
		if got := Code(c.payload); !slices.Equal(got, c.want) {
			t.Errorf("Code(%x) = %v, want %v", c.payload, got, c.want)
		}
	}
}

func TestCodeThatEndsAmid(t *testing.T) {
	for _, whole := range []string{"\x08\x00\x03", "\x00\x01\x02\xfe\xff\xff\xff\xff\xff\xff\xff", "\x09\x01\x02\xfe\xff\xff\xff\xff\xff\xff\xff", "\x01\x03\x00\x02ab", "\x02\x03\x00\x04abcd", "\x03\x03\x00\x01a", "\x04\x03\x00\x03abc"} {
		for size := 1; size < len(whole); size++ {
			for _, ahead := range []string{"", "\x0a\x00\x00", whole} {
				if got := Code(ahead + whole[:size]); len(got) != 0 {
					t.Errorf("Code(%x) = %v, want none", ahead+whole[:size], got)
				}
			}
		}
	}
}

// What Payload wrote is read back, and is a program again.
func TestCodeOfPayload(t *testing.T) {
	var given []api.Ins
	for op := range 12 {
		given = append(given, api.Ins{Op: op, R: op % 4, S: 3 - op%4, N: op, Key: "keys"[:1+op%4]})
	}
	p, _ := Of(given)
	if again, ok := Of(Code(string(p.Payload()))); !ok || !slices.Equal(again, p) {
		t.Errorf("read back it is %v, %v, want %v", again, ok, p)
	}
}

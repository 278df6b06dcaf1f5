package program

import (
	"slices"
	"testing"

	"ariabook/api"
	"ariabook/keys"
)

func TestOfTakesOverWhatIsNeeded(t *testing.T) {
	var code []api.Ins
	var want Program
	for op := range 12 {
		code = append(code, api.Ins{Op: op, R: op % 4, S: 3 - op%4, N: 7, Key: "key"})
		ins := Ins{Op: byte(op), R: byte(op % 4), S: byte(3 - op%4)}
		switch op {
		case api.Set, api.Jump:
			ins.N = 7
		case api.Get, api.Has, api.Put, api.Del:
			ins.Key = keys.Of("key")
		}
		want = append(want, ins)
	}
	p, ok := Of(code)
	if !ok || !slices.Equal(p, want) {
		t.Fatalf("Of = %v, %v, want %v", p, ok, want)
	}
	clear(code)
	if !slices.Equal(p, want) {
		t.Error("Of keeps what the caller may change")
	}
}

func TestOfNone(t *testing.T) {
	for _, code := range [][]api.Ins{nil, {}, make([]api.Ins, 21), {{Op: 12}}, {{R: 4}}, {{S: -1}}, {{Op: api.Jump, N: 1}}, {{}, {Op: api.Get, Key: "K"}}} {
		if p, ok := Of(code); p != nil || ok {
			t.Errorf("Of(%v) = %v, %v", code, p, ok)
		}
	}
}

func TestPayload(t *testing.T) {
	p, _ := Of([]api.Ins{{Op: api.Set, R: 1, S: 2, N: -2}, {Op: api.Put, R: 3, Key: "ab"}, {Op: api.Div, S: 3, N: 9, Key: "x"}, {Op: api.Jump, N: 2}})
	want := "\x00\x01\x02\xfe\xff\xff\xff\xff\xff\xff\xff" + "\x03\x03\x00\x02ab" + "\x08\x00\x03" + "\x09\x00\x00\x02\x00\x00\x00\x00\x00\x00\x00"
	if got := string(p.Payload()); got != want {
		t.Errorf("Payload = %x, want %x", got, want)
	}
}

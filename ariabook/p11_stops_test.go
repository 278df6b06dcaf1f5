package ariabook_test

import (
	"strings"
	"testing"

	"ariabook/api"
)

// heads are steps ahead of the place at which a log stops: none, one that waits, one that waits behind a batch, all decided.
func heads() [][][]api.Ins {
	return [][][]api.Ins{{}, {counter()}, {counter(), nil, counter()}, {counter(), counter(), nil, nil}}
}

// stops looks whether a log ends, for Replay, where the tail begins, whatever whole entries are behind it.
func stops(t *testing.T, tail string) {
	t.Helper()
	for i, steps := range heads() {
		want := done(t, 2, 2, steps)
		for _, behind := range []string{"", entry("S", putX), entry("S", countBytes) + entry("B", "") + entry("S", putX)} {
			got := replay(t, want.Log()+tail+behind, 2, 3)
			if got.Log() != want.Log() {
				t.Errorf("%.40x behind head %d: the log is %.200x, want %x", tail, i, got.Log(), want.Log())
			}
			if state(got) != state(want) {
				t.Errorf("%.40x behind head %d changed the book", tail, i)
			}
		}
	}
}

// goesOn looks whether the payload is taken as a program behind each head, and what is behind it too.
func goesOn(t *testing.T, payload string) {
	t.Helper()
	for i, steps := range heads() {
		log := done(t, 2, 2, steps).Log() + entry("S", payload) + entry("B", "") + entry("S", putX)
		if got := replay(t, log, 2, 3); got.Log() != log {
			t.Errorf("%x behind head %d: the log is %x, want %x", payload, i, got.Log(), log)
		}
	}
}

// The test's own entries are those that the document names.
func TestP11EntriesOfTheTests(t *testing.T) {
	if got, want := entry("B", ""), bytesOf(t, "4200009660"); got != want {
		t.Errorf("the entry of a batch is %x, want %x", got, want)
	}
	if got, want := entry("S", countBytes), bookWith(t, 1, counter()).Log(); got != want {
		t.Errorf("the entry of a program is %x, want %x", got, want)
	}
}

func TestP11StopsAtNoEntry(t *testing.T) {
	for _, tail := range []string{"\x00", "S", "S\x00", "S\x00\x00", "S\x00\x00\x00", "B", "B\x00", "\x00\x00\x00\x00\x00", "\xff\xff\xff\xff\xff", "no entry", "S\x03\x00\x0a\x00\x00", strings.Repeat("\x00", 70000), strings.Repeat("\xff", 70000), strings.Repeat("S", 70000), strings.Repeat("B", 70000)} {
		stops(t, tail)
	}
}

func TestP11StopsAtAWrongSum(t *testing.T) {
	for _, payload := range []string{outBytes, putX, countBytes} {
		right := sumOf("S" + pair(len(payload)) + payload)
		for _, wrong := range []int{0, 1, right - 1, right + 1, right - 256, right + 256, right ^ 1, right ^ 0x8000, right>>8 | right<<8, 0xffff, 65521} {
			if wrong&0xffff != right {
				stops(t, "S"+pair(len(payload))+payload+pair(wrong))
			}
		}
	}
	for bit := range 16 {
		stops(t, "B\x00\x00"+pair(0x6096^1<<bit))
	}
	stops(t, "B\x00\x00\x60\x96")
	stops(t, "B\x00\x00\x00\x00")
}

// A sum is below 65521: one that is 65521 too great fits in two bytes, where the right one is small, and is a wrong one.
func TestP11StopsAtASumNotCutDown(t *testing.T) {
	found := 0
	for n := 0; found < 3; n++ {
		payload := "\x00\x00\x00" + pair(n) + string([]byte{byte(n >> 16)}) + "\x00\x00\x00\x00\x00"
		front := "S" + pair(len(payload)) + payload
		if s := sumOf(front); s < 15 {
			found++
			goesOn(t, payload)
			stops(t, front+pair(s+65521))
		}
	}
}

// The sum is of the kind and the length too, and of this entry alone.
func TestP11SumOfAllItsBytes(t *testing.T) {
	stops(t, "S"+pair(3)+outBytes+pair(sumOf(outBytes)))
	stops(t, "S"+pair(3)+outBytes+pair(sumOf(pair(3)+outBytes)))
	stops(t, "S"+pair(3)+outBytes+pair(sumOf("B"+pair(3)+outBytes)))
	stops(t, "S"+pair(3)+outBytes+pair(sumOf("S"+outBytes)))
	first := entry("S", outBytes)
	second := "S" + pair(3) + outBytes + pair(sumOf(first+"S"+pair(3)+outBytes))
	if b := replay(t, first+second, 2, 2); b.Log() != first {
		t.Errorf("an entry with a sum of those ahead too is taken: %x", b.Log())
	}
}

func TestP11StopsAtALengthBeyondTheEnd(t *testing.T) {
	for _, length := range []int{4, 5, 255, 256, 259, 0xff03, 0xffff} {
		front := "S" + pair(length) + outBytes
		want := done(t, 2, 2, heads()[2])
		if got := replay(t, want.Log()+front+pair(sumOf(front)), 2, 2); state(got) != state(want) {
			t.Errorf("a length of %d, with 3 bytes and a sum behind it, is taken", length)
		}
		stops(t, front+pair(sumOf(front)))
		stops(t, front)
	}
	stops(t, "B\x00\x01"+pair(sumOf("B\x00\x01")))
	stops(t, "B\x01\x00"+pair(sumOf("B\x01\x00")))
}

func TestP11StopsAtAnUnknownKind(t *testing.T) {
	for kind := range 256 {
		if kind != 'S' {
			stops(t, entry(string([]byte{byte(kind)}), putX))
		}
		if kind != 'B' {
			stops(t, entry(string([]byte{byte(kind)}), ""))
		}
	}
}

func TestP11StopsAtABatchWithAPayload(t *testing.T) {
	for _, payload := range []string{"\x00", "B", outBytes, putX, strings.Repeat("\x00", 255), strings.Repeat("\x00", 256), strings.Repeat("\x00", 65535)} {
		stops(t, entry("B", payload))
	}
}

func TestP11StopsAtABatchOfNothing(t *testing.T) {
	program, batch := entry("S", putX), entry("B", "")
	for _, c := range []struct {
		log   string
		batch int
		want  string
	}{
		{batch, 1, ""},
		{batch + program, 1, ""},
		{program + batch + batch, 1, program + batch},
		{program + batch + batch + program + batch, 8, program + batch},
		{program + program + batch + batch + batch + program, 1, program + program + batch + batch},
		{program + program + batch + batch + batch + program, 2, program + program + batch + batch}, // they are in one another's way
		{program + program + batch + batch + program + batch + batch, 8, program + program + batch + batch + program + batch},
	} {
		if got := replay(t, c.log, c.batch, 2).Log(); got != c.want {
			t.Errorf("Replay(%x, %d): the log is %x, want %x", c.log, c.batch, got, c.want)
		}
	}
}

func TestP11StopsAtTheSixtyFirst(t *testing.T) {
	program, batch := entry("S", outBytes), entry("B", "")
	full := strings.Repeat(program, 60)
	both := strings.Repeat(program+batch, 60)
	for _, c := range []struct{ log, want string }{
		{full[len(program):] + program, full},
		{full + program, full},
		{full + program + batch, full},
		{full + batch + program + batch, full + batch},
		{both, both},
		{both + program, both},
		{both + batch + program, both},
		{full + strings.Repeat(batch, 8) + program, full + strings.Repeat(batch, 8)},
		{full + strings.Repeat(batch, 9), full + strings.Repeat(batch, 8)},
		{strings.Repeat(program, 50000), full},
	} {
		b := replay(t, c.log, 8, 5)
		if b.Log() != c.want {
			t.Errorf("of %d bytes the log is %d, want %d", len(c.log), len(b.Log()), len(c.want))
		}
		refuse(t, b, api.ErrFull, counter())
		if _, e := b.Result(61); e != api.ErrNone {
			t.Errorf("there is a 61st program")
		}
	}
}

// Each byte of a log, touched in each way, makes it end ahead of the entry in which it is.
func TestP11StopsAtATouchedByte(t *testing.T) {
	moments := momentsOf(t, 2, [][]api.Ins{counter(), counter(), nil, code(set(0, -2), jump(0, 1)), nil, nil, code(del("x"))})
	log := moments[len(moments)-1].log
	for place := range len(log) {
		want := lastWithin(moments, place)
		for touch := 1; touch < 256; touch++ {
			bytes := []byte(log)
			bytes[place] ^= byte(touch)
			if got := state(replay(t, string(bytes), 2, 2)); got != want.state {
				t.Errorf("byte %d touched with %d: the book is not the one ahead of its entry", place, touch)
			}
		}
	}
}

func TestP11StopsAtNoProgram(t *testing.T) {
	jumpTo := func(n string) string { return "\x09\x00\x00" + n }
	for _, payload := range []string{
		"",
		// too short
		"\x0a", "\x0a\x00", "\x00\x00\x00", "\x00\x00\x00\x01", setOne[:10], jumpTo("\x00\x00\x00\x00\x00\x00\x00"), "\x03\x00\x00", putX[:4], "\x03\x00\x00\x02x", "\x03\x00\x00\x04xyz", outBytes + "\x0a\x00", outBytes + setOne[:10], setOne + putX[:4],
		// too long
		outBytes + "\x00", outBytes + "\x0a", putX + "x", putX + "\x00", setOne + "\x00", jumpTo("\x00\x00\x00\x00\x00\x00\x00\x00") + "\x00", "\x0a\x00\x00\x00\x00\x00\x00\x00\x00\x00\x00"[:4],
		// of what an instruction does not need there are no bytes
		"\x05\x00\x00\x01\x00\x00\x00\x00\x00\x00\x00", "\x0a\x00\x00\x01x", "\x00\x00\x00\x01\x00\x00\x00\x00\x00\x00\x00\x01x",
		// an instruction that may not stand there
		"\x0c\x00\x00", "\x0d\x00\x00", "\xff\x00\x00", "\x80\x00\x00", "\x0a\x04\x00", "\x0a\x00\x04", "\x0a\xff\x00", "\x0a\x00\xff", "\x03\x04\x00\x01x", "\x03\x00\x04\x01x", "\x00\x04" + setOne[2:], "\x09\x00\x04\x00\x00\x00\x00\x00\x00\x00\x00", outBytes + "\x0c\x00\x00", "\x0c\x00\x00" + outBytes,
		// a key that is none
		"\x03\x00\x00\x00", "\x03\x00\x00\x05abcde", "\x01\x00\x00\x05abcde", "\x03\x00\x00\x01X", "\x03\x00\x00\x01\x00", "\x03\x00\x00\x02a\x00", "\x03\x00\x00\x02\x00a", "\x03\x00\x00\x04abc\x00", "\x03\x00\x00\x01`", "\x03\x00\x00\x01{", "\x03\x00\x00\x02a ", "\x03\x00\x00\x02\xc3\xa9", "\x02\x00\x00\x01\xff", "\x04\x00\x00\x011", "\x03\x00\x00\xff" + strings.Repeat("a", 255), outBytes + "\x01\x00\x00\x00",
		// a Jump out of the program
		jumpTo("\x01\x00\x00\x00\x00\x00\x00\x00"), jumpTo("\xff\xff\xff\xff\xff\xff\xff\xff"), jumpTo("\x00\x01\x00\x00\x00\x00\x00\x00"), jumpTo("\x00\x00\x00\x00\x01\x00\x00\x00"), jumpTo("\x00\x00\x00\x00\x00\x00\x00\x80"), jumpTo("\x00\x00\x00\x00\x00\x00\x00\x01"), outBytes + jumpTo("\x02\x00\x00\x00\x00\x00\x00\x00"), jumpTo("\x02\x00\x00\x00\x00\x00\x00\x00") + outBytes,
		// more than 20 instructions
		strings.Repeat(outBytes, 21), strings.Repeat(outBytes, 22), strings.Repeat(setOne, 21), strings.Repeat(putX, 21), strings.Repeat(outBytes, 86), strings.Repeat(outBytes, 256+20), strings.Repeat(outBytes, 21845), strings.Repeat("\x00", 65535), strings.Repeat("\xff", 65535),
	} {
		stops(t, entry("S", payload))
	}
}

// The payloads at the edges of what is a program are taken.
func TestP11GoesOnAtPrograms(t *testing.T) {
	for op := range 12 {
		for register := range 4 {
			payload := string([]byte{byte(op), byte(register), byte(3 - register)})
			switch op {
			case api.Set, api.Jump:
				payload += strings.Repeat("\x00", 8)
			case api.Get, api.Has, api.Put, api.Del:
				payload += "\x04azaz"
			}
			goesOn(t, payload)
			goesOn(t, strings.Repeat(payload, 20))
		}
	}
	for _, payload := range []string{"\x03\x00\x00\x01a", "\x03\x00\x00\x01z", "\x01\x03\x03\x02zz", "\x02\x00\x03\x03aaa", outBytes + "\x09\x00\x00\x01\x00\x00\x00\x00\x00\x00\x00", "\x09\x00\x00\x13\x00\x00\x00\x00\x00\x00\x00" + strings.Repeat(outBytes, 19), "\x00\x00\x00\xff\xff\xff\xff\xff\xff\xff\xff", "\x00\x00\x00\x00\x00\x00\x00\x00\x00\x00\x80", setOne + countBytes} {
		goesOn(t, payload)
	}
}

// Each byte of an instruction, at each of its 256 numbers: just those that may stand there are taken.
func TestP11EachByteOfAnInstruction(t *testing.T) {
	taken := func(want bool, payload string) {
		t.Helper()
		log := entry("S", payload)
		if got := replay(t, log, 2, 2).Log(); got != "" && got != log || (got == log) != want {
			t.Errorf("Replay of a program of the bytes %.40x has the log %.40x", payload, got)
		}
	}
	for n := range 256 {
		b := string([]byte{byte(n)})
		plain := n >= api.Add && n <= api.Div || n == api.Out || n == api.Fail
		taken(plain, b+"\x00\x00")
		taken(n == api.Set || n == api.Jump, b+"\x00\x00"+strings.Repeat("\x00", 8))
		taken(n >= api.Get && n <= api.Del, b+"\x00\x00\x01a")
		letter := n >= 'a' && n <= 'z'
		for op := range 12 {
			front, tail := string([]byte{byte(op)}), ""
			switch op {
			case api.Set, api.Jump:
				tail = strings.Repeat("\x00", 8)
			case api.Get, api.Has, api.Put, api.Del:
				tail = "\x02ab"
				taken(n >= 1 && n <= 4, front+"\x00\x00"+b+strings.Repeat("k", n))
				taken(n == 1, front+"\x00\x00"+b+"k")
				taken(letter, front+"\x00\x00\x01"+b)
				taken(letter, front+"\x00\x00\x04kkk"+b)
				taken(letter, front+"\x00\x00\x02"+b+"k")
			}
			taken(n < 4, front+b+"\x00"+tail)
			taken(n < 4, front+"\x00"+b+tail)
		}
		for place := range 8 {
			number := strings.Repeat("\x00", place) + b + strings.Repeat("\x00", 7-place)
			taken(true, "\x00\x00\x00"+number)
			taken(n == 0 || n < 3 && place == 0, outBytes+outBytes+"\x09\x00\x00"+number)
		}
	}
	for count := range 300 {
		taken(count >= 1 && count <= 20, strings.Repeat(outBytes, count))
	}
}

// What is taken of pieces put together is just what Submit takes, and as it takes it.
func TestP11TakesWhatSubmitTakes(t *testing.T) {
	pieces := []string{outBytes, putX, setOne, "\x09\x00\x00\x01\x00\x00\x00\x00\x00\x00\x00", "\x01\x02\x03\x04wxyz", "\x0b\x03\x03", "\x0c\x00\x00", "\x02\x00\x00\x01A"}
	instructions := []api.Ins{out(0), put("x", 0), set(1, 1), jump(0, 1), {Op: api.Get, R: 2, S: 3, Key: "wxyz"}, {Op: api.Fail, R: 3, S: 3}, {Op: 12}, has(0, "A")}
	for i, first := range pieces {
		for k, second := range pieces {
			for n, third := range pieces {
				want := bookOf(t, 2, 2)
				want.Submit(code(instructions[i], instructions[k], instructions[n]))
				if got := replay(t, entry("S", first+second+third), 2, 2); state(got) != state(want) {
					t.Errorf("Replay of %x makes another book than Submit", first+second+third)
				}
			}
		}
	}
}

package program

import "ariabook/api"

// Payload gives the program's bytes as the log tells them.
func (p Program) Payload() []byte {
	var payload []byte
	for _, ins := range p {
		payload = append(payload, ins.Op, ins.R, ins.S)
		if needsNumber(ins.Op) {
			payload = appendEight(payload, ins.N)
		}
		if needsKey(ins.Op) {
			n := ins.Key.Len()
			payload = append(payload, byte(n))
			payload = append(payload, ins.Key[:n]...)
		}
	}
	return payload
}

// appendEight adds n in eight bytes, the lowest first. The conversion adds 2^64 to a number below 0.
func appendEight(to []byte, n int) []byte {
	rest := uint64(n)
	for range 8 {
		to = append(to, byte(rest))
		rest >>= 8
	}
	return to
}

// Code reads a payload back: the instructions that have just these bytes; if the bytes end amid one, none, which is no program. Whether the others are one is for Of to say.
func Code(payload string) []api.Ins {
	var code []api.Ins
	for payload != "" {
		ins, rest, ok := cutInstruction(payload)
		if !ok {
			return nil
		}
		code = append(code, ins)
		payload = rest
	}
	return code
}

// cutInstruction splits the first instruction off; false, if not all of its bytes are there.
func cutInstruction(payload string) (ins api.Ins, rest string, ok bool) {
	front, rest, ok := cut(payload, 3)
	if !ok {
		return api.Ins{}, "", false
	}
	ins = api.Ins{Op: int(front[0]), R: int(front[1]), S: int(front[2])}
	switch {
	case needsNumber(front[0]):
		front, rest, ok = cut(rest, 8)
		ins.N = eight(front)
	case needsKey(front[0]):
		ins.Key, rest, ok = cutKey(rest)
	}
	return ins, rest, ok
}

// cutKey splits off a text with its length ahead of it.
func cutKey(payload string) (key, rest string, ok bool) {
	length, rest, ok := cut(payload, 1)
	if !ok {
		return "", "", false
	}
	return cut(rest, int(length[0]))
}

// cut splits n bytes off; false, if there are fewer.
func cut(payload string, n int) (front, rest string, ok bool) {
	if len(payload) < n {
		return "", "", false
	}
	return payload[:n], payload[n:], true
}

// eight reads a number back, its lowest byte first.
func eight(from string) int {
	var n uint64
	for i := range len(from) {
		n |= uint64(from[i]) << (8 * i)
	}
	return int(n)
}

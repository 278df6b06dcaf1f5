package program

// Payload gives the program's bytes as the log tells them.
func (p Program) Payload() []byte {
	var payload []byte
	for _, ins := range p {
		payload = append(payload, ins.Op, ins.R, ins.S)
		if ins.needsNumber() {
			payload = appendEight(payload, ins.N)
		}
		if ins.needsKey() {
			n := ins.Key.Len()
			payload = append(payload, byte(n))
			payload = append(payload, ins.Key[:n]...)
		}
	}
	return payload
}

// appendEight adds n in eight bytes, the lowest first. The conversion adds 2^64 to a number below 0.
func appendEight(to []byte, n int) []byte {
	rest := uint64(n)
	for range 8 {
		to = append(to, byte(rest))
		rest >>= 8
	}
	return to
}

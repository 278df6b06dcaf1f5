// Package program: a program as it is held within: checked once, so that whoever has one needs no further look at its bounds.
package program

import (
	"ariabook/api"
	"ariabook/keys"
)

// Ins is an instruction. What it does not need is zero, whatever was handed in there.
type Ins struct {
	Op, R, S byte
	N        int
	Key      keys.Key
}

// Program is a program's instructions.
type Program []Ins

// Of takes code over as a program, into memory of its own; false, if it is none.
func Of(code []api.Ins) (Program, bool) {
	if !within(len(code), 1, api.MaxCode) {
		return nil, false
	}
	program := make(Program, len(code))
	for i, given := range code {
		ins, ok := instruction(given, len(code))
		if !ok {
			return nil, false
		}
		program[i] = ins
	}
	return program, true
}

// instruction takes over one instruction of a program of that length; false, if it may not stand there.
func instruction(given api.Ins, length int) (Ins, bool) {
	if !within(given.Op, api.Set, api.Fail) || !isRegister(given.R) || !isRegister(given.S) {
		return Ins{}, false
	}
	ins := Ins{Op: byte(given.Op), R: byte(given.R), S: byte(given.S)}
	if needsKey(ins.Op) {
		ins.Key = keys.Of(given.Key)
		return ins, !ins.Key.IsNone()
	}
	if needsNumber(ins.Op) {
		ins.N = given.N
	}
	return ins, ins.Op != api.Jump || within(ins.N, 0, length-1)
}

func within(n, least, greatest int) bool {
	return least <= n && n <= greatest
}

func isRegister(n int) bool {
	return within(n, 0, api.Registers-1)
}

func needsKey(op byte) bool {
	return op == api.Get || op == api.Has || op == api.Put || op == api.Del
}

func needsNumber(op byte) bool {
	return op == api.Set || op == api.Jump
}

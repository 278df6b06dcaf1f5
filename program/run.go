package program

import (
	"slices"

	"ariabook/api"
	"ariabook/keys"
	"ariabook/numbers"
)

// Run is what came of running a program. One that failed has no Writes, and output 0.
type Run struct {
	Reads  []keys.Key       // what it read of the book, each key once
	Writes []numbers.Change // what it put and deleted, each key once
	Output int
	Failed bool
}

// DoesRead tells whether the key was read.
func (r Run) DoesRead(key keys.Key) bool {
	return slices.Contains(r.Reads, key)
}

// DoesWrite tells whether the key was put or deleted.
func (r Run) DoesWrite(key keys.Key) bool {
	return placeOf(key, r.Writes) >= 0
}

// Run runs the program on the book, into which it does not write: others may run on it at the same time.
func (p Program) Run(book numbers.Numbers) (run Run) {
	m := machine{book: book}
	defer func() {
		if recover() != nil {
			run = Run{Reads: m.reads, Failed: true}
		}
	}()
	m.runToEnd(p)
	return Run{Reads: m.reads, Writes: m.writes, Output: m.output}
}

// machine is a program while it runs. To fail it panics.
type machine struct {
	book      numbers.Numbers
	registers [api.Registers]int
	output    int
	reads     []keys.Key
	writes    []numbers.Change
}

func (m *machine) runToEnd(p Program) {
	steps := 0
	for at := 0; at < len(p); steps++ {
		if steps == api.MaxSteps {
			panic("a step too many")
		}
		at = m.step(p[at], at+1)
	}
}

// step does an instruction and tells at which one it goes on: at next, if it does not jump.
func (m *machine) step(ins Ins, next int) int {
	r, s := &m.registers[ins.R], m.registers[ins.S]
	switch ins.Op {
	case api.Set:
		*r = ins.N
	case api.Get:
		*r, _ = m.look(ins.Key)
	case api.Has:
		_, has := m.look(ins.Key)
		*r = oneIf(has)
	case api.Put:
		m.write(numbers.Change{Key: ins.Key, Number: *r})
	case api.Del:
		m.write(numbers.Change{Key: ins.Key, Gone: true})
	case api.Add:
		*r += s
	case api.Sub:
		*r -= s
	case api.Mul:
		*r *= s
	case api.Div:
		*r = divide(*r, s)
	case api.Jump:
		if *r != 0 {
			return ins.N
		}
	case api.Out:
		m.output = *r
	case api.Fail:
		panic("told to fail")
	}
	return next
}

// look gives the number under the key and whether there is one. What the program wrote itself counts ahead of the book, and is not read.
func (m *machine) look(key keys.Key) (int, bool) {
	if i := placeOf(key, m.writes); i >= 0 {
		return m.writes[i].Number, !m.writes[i].Gone
	}
	if !slices.Contains(m.reads, key) {
		m.reads = append(m.reads, key)
	}
	number, has := m.book[key]
	return number, has
}

// write notes the change, in the place of an earlier one of the same key.
func (m *machine) write(change numbers.Change) {
	if i := placeOf(change.Key, m.writes); i >= 0 {
		m.writes[i] = change
		return
	}
	if len(m.writes) == api.MaxWrites {
		panic("a key too many")
	}
	m.writes = append(m.writes, change)
}

// divide cuts off towards 0, and gives -2^63 for -2^63 by -1, as the language does.
func divide(n, by int) int {
	if by == 0 {
		panic("divided by 0")
	}
	return n / by
}

func oneIf(is bool) int {
	if is {
		return 1
	}
	return 0
}

// placeOf gives the place at which the key is changed, or -1.
func placeOf(key keys.Key, changes []numbers.Change) int {
	for i, c := range changes {
		if c.Key == key {
			return i
		}
	}
	return -1
}

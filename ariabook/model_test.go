package ariabook_test

import (
	"maps"
	"math/big"
	"math/rand/v2"
	"slices"
	"testing"

	"ariabook/api"
	"ariabook/ariabook"
)

// trial is one run, told by the document's words once more: with texts as keys, sets as maps, and numbers of any size that are cut to 64 bits.
type trial struct {
	reads, writes map[string]bool
	after         map[string]int
	output        int
	failed        bool
}

// cut takes a number modulo 2^64, into those with a sign.
func cut(n *big.Int) int {
	return int(int64(new(big.Int).And(n, new(big.Int).SetUint64(1<<64-1)).Uint64()))
}

// tryOut runs the program on a copy of the book.
func tryOut(program []api.Ins, book map[string]int) trial {
	r := trial{reads: map[string]bool{}, writes: map[string]bool{}, after: maps.Clone(book)}
	failed := trial{reads: r.reads, after: book, failed: true}
	var registers [4]int
	at, steps := 0, 0
	for at < len(program) {
		if steps++; steps > 100 {
			return failed
		}
		ins := program[at]
		at++
		one, other := big.NewInt(int64(registers[ins.R])), big.NewInt(int64(registers[ins.S]))
		switch ins.Op {
		case api.Set:
			registers[ins.R] = ins.N
		case api.Get, api.Has:
			if !r.writes[ins.Key] {
				r.reads[ins.Key] = true
			}
			n, is := r.after[ins.Key]
			if ins.Op == api.Has {
				n = map[bool]int{true: 1}[is]
			}
			registers[ins.R] = n
		case api.Put, api.Del:
			r.writes[ins.Key] = true
			if len(r.writes) > 4 {
				return failed
			}
			delete(r.after, ins.Key)
			if ins.Op == api.Put {
				r.after[ins.Key] = registers[ins.R]
			}
		case api.Add:
			registers[ins.R] = cut(one.Add(one, other))
		case api.Sub:
			registers[ins.R] = cut(one.Sub(one, other))
		case api.Mul:
			registers[ins.R] = cut(one.Mul(one, other))
		case api.Div:
			if other.Sign() == 0 {
				return failed
			}
			registers[ins.R] = cut(one.Quo(one, other))
		case api.Jump:
			if registers[ins.R] != 0 {
				at = ins.N
			}
		case api.Out:
			r.output = registers[ins.R]
		case api.Fail:
			return failed
		}
	}
	return r
}

// model is a book once more.
type model struct {
	batch, batches int
	programs       [][]api.Ins
	waiting        []int
	book           map[string]int
}

func meet(one, other map[string]bool) bool {
	for key := range one {
		if other[key] {
			return true
		}
	}
	return false
}

// runBatch gives what Batch must tell.
func (m *model) runBatch() []api.Done {
	batch := m.waiting[:min(m.batch, len(m.waiting))]
	if len(batch) == 0 {
		return nil
	}
	m.batches++
	trials := map[int]trial{}
	for _, id := range batch {
		trials[id] = tryOut(m.programs[id-1], m.book)
	}
	next := maps.Clone(m.book)
	var falling, rising []api.Done
	var undecided []int
	for _, id := range batch {
		r := trials[id]
		write, read, wait := false, false, false
		for earlier, e := range trials {
			if earlier < id {
				write = write || meet(e.writes, r.writes)
				read = read || meet(e.writes, r.reads)
				wait = wait || meet(e.reads, r.writes)
			}
		}
		done := api.Done{ID: id, Batch: m.batches, Outcome: api.Committed, Output: r.output}
		if r.failed {
			done.Outcome = api.Failed
		}
		if write || read && wait {
			undecided = append(undecided, id)
			continue
		}
		if read {
			falling = append([]api.Done{done}, falling...)
		} else {
			rising = append(rising, done)
		}
		for key := range r.writes {
			delete(next, key)
			if n, is := r.after[key]; is {
				next[key] = n
			}
		}
	}
	m.book = next
	m.waiting = append(undecided, m.waiting[len(batch):]...)
	return append(falling, rising...)
}

// anyProgram is a program by chance: of few keys, so that programs are in one another's way.
func anyProgram(chance *rand.Rand) []api.Ins {
	keys := []string{"a", "aa", "b", "abcd", "z"}[:1+chance.IntN(5)]
	numbers := append(edges(), -7, 7, 10)
	program := make([]api.Ins, 1+chance.IntN(20))
	if chance.IntN(3) > 0 {
		program = program[:min(len(program), 6)]
	}
	for i := range program {
		op := chance.IntN(12)
		if op == api.Fail && chance.IntN(3) > 0 {
			op = api.Get
		}
		ins := api.Ins{Op: op, R: chance.IntN(4), S: chance.IntN(4), Key: keys[chance.IntN(len(keys))]}
		ins.N = numbers[chance.IntN(len(numbers))]
		if op == api.Jump {
			ins.N = chance.IntN(len(program))
		}
		program[i] = ins
	}
	return program
}

// pairsOf are the model's pairs in the order of Go's own texts.
func pairsOf(book map[string]int) []api.Pair {
	var pairs []api.Pair
	for _, key := range slices.Sorted(maps.Keys(book)) {
		pairs = append(pairs, api.Pair{Key: key, Number: book[key]})
	}
	return pairs
}

// oneBehindTheOther runs programs in the order in which they were told, each on the book as the one ahead left it, and holds against each what was told of it (P12's first sentence).
func oneBehindTheOther(t *testing.T, programs [][]api.Ins, dones []api.Done) map[string]int {
	t.Helper()
	book := map[string]int{}
	for _, d := range dones {
		r := tryOut(programs[d.ID-1], book)
		if r.failed != (d.Outcome == api.Failed) || r.output != d.Output {
			t.Errorf("told %v, but run one behind the other it failed: %v, with output %d", d, r.failed, r.output)
		}
		book = r.after
	}
	return book
}

func TestModel(t *testing.T) {
	for seed := range uint64(400) {
		chance := rand.New(rand.NewPCG(seed, 11))
		m := &model{batch: 1 + chance.IntN(8), book: map[string]int{}}
		b, _ := ariabook.New(m.batch, 1+chance.IntN(5))
		var dones []api.Done
		for len(m.programs) < 60 || len(m.waiting) > 0 {
			if len(m.programs) < 60 && chance.IntN(4) > 0 {
				m.programs = append(m.programs, anyProgram(chance))
				m.waiting = append(m.waiting, len(m.programs))
				accept(t, b, len(m.programs), m.programs[len(m.programs)-1])
				continue
			}
			want := m.runBatch()
			if got := b.Batch(); !slices.Equal(got, want) {
				t.Fatalf("seed %d: Batch = %v, want %v", seed, got, want)
			}
			holds(t, b, pairsOf(m.book)...)
			waits(t, b, m.waiting...)
			dones = append(dones, want...)
		}
		if len(dones) != 60 {
			t.Errorf("seed %d: %d programs were told", seed, len(dones))
		}
		if book := oneBehindTheOther(t, m.programs, dones); !maps.Equal(book, m.book) {
			t.Errorf("seed %d: one behind the other they leave %v, in batches %v", seed, book, m.book)
		}
	}
}

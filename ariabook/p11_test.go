package ariabook_test

import (
	"fmt"
	"math/rand/v2"
	"strings"
	"testing"

	"ariabook/api"
	"ariabook/ariabook"
)

func TestP11ErrArg(t *testing.T) {
	log := done(t, 2, 2, [][]api.Ins{counter(), nil, counter()}).Log()
	for _, log := range []string{"", "no log", log, log[1:], log[:len(log)-1], entry("X", ""), strings.Repeat("\xff", 70000)} {
		for _, batch := range append(edges(), 7) {
			for _, workers := range append(edges(), 7) {
				_, want := ariabook.New(batch, workers)
				b, e := ariabook.Replay(log, batch, workers)
				if e != want || (b != nil) != (want == api.OK) {
					t.Errorf("Replay(%.40x, %d, %d) = %v, %d, want error %d", log, batch, workers, b, e, want)
				}
			}
		}
	}
}

func TestP11EmptyLog(t *testing.T) {
	for batch := 1; batch <= 8; batch++ {
		for workers := 1; workers <= 5; workers++ {
			sameBooks(t, "the empty log", replay(t, "", batch, workers), bookOf(t, batch, workers))
		}
	}
}

// The bytes and what comes of them are written out here, so that nothing of the program is held against itself.
func TestP11WrittenOut(t *testing.T) {
	program, batch := bytesOf(t, "5303000a0302ba0e"), bytesOf(t, "4200009660")
	b := replay(t, program+program+batch+program, 1, 2)
	if got, want := fmt.Sprint(b.Log() == program+program+batch+program, b.All()), "true []"; got != want {
		t.Errorf("Replay of programs that do nothing: %s, want %s", got, want)
	}
	if d, e := b.Result(1); d != (api.Done{ID: 1, Batch: 1, Outcome: api.Committed}) || e != api.OK {
		t.Errorf("Result(1) = %v, %d", d, e)
	}
	waits(t, b, 2, 3)
	accept(t, b, 4, counter())
	flushes(t, b, 3)
	holds(t, b, api.Pair{Key: "x", Number: 1})
}

// Every instruction is read as it was handed in, at the edges of its numbers and keys.
func TestP11Instructions(t *testing.T) {
	long := make([]api.Ins, 20)
	for i := range long {
		long[i] = set(i%4, -i)
	}
	long[19] = jump(0, 19)
	codes := append(busy(), long, padded(20, jump(0, 19)), code(jump(3, 0), jump(2, 1)), code(get(1, "a"), has(2, "ab"), put("abc", 1), del("abcd"), out(2)), code(put("zzzz", 0), get(0, "zzzz")))
	for _, n := range edges() {
		codes = append(codes, code(set(3, n), put("n", 3), out(3)))
	}
	for _, n := range []int{0x0102030405060708, -0x0102030405060708} {
		codes = append(codes, code(set(1, n), add(0, 1), sub(0, 2), mul(1, 0), div(1, 0), out(1)))
	}
	for _, c := range codes {
		was := bookWith(t, 2, counter(), c, c)
		now := replay(t, was.Log(), 2, 2)
		sameBooks(t, fmt.Sprint("with ", c), now, was)
	}
}

// A book that was made of the log of another answers as that one, then and from then on.
func TestP11WholeLog(t *testing.T) {
	for seed := range uint64(200) {
		chance := rand.New(rand.NewPCG(seed, 12))
		batch := 1 + chance.IntN(8)
		was := done(t, batch, 1+chance.IntN(5), anySteps(chance, chance.IntN(61)))
		now := replay(t, was.Log(), batch, 1+chance.IntN(5))
		sameBooks(t, fmt.Sprint("seed ", seed), now, was)
	}
}

func TestP11AnyNumberOfWorkers(t *testing.T) {
	for batch := 1; batch <= 8; batch++ {
		was := bookOf(t, batch, 3)
		transcript(was, busy())
		handIn(t, was, busy()...)
		was.Batch()
		for workers := 1; workers <= 5; workers++ {
			for range 5 {
				if now := replay(t, was.Log(), batch, workers); state(now) != state(was) {
					t.Fatalf("Replay(.., %d, %d) makes another book than was", batch, workers)
				}
			}
		}
	}
}

// The calls that changed nothing are not in the log, and not in the new book.
func TestP11RefusedCallsLeaveNothing(t *testing.T) {
	was := bookOf(t, 2, 2)
	was.Batch()
	refuse(t, was, api.ErrProc, nil)
	handIn(t, was, counter())
	was.Flush()
	was.Flush()
	was.Batch()
	fill(t, was, 2)
	refuse(t, was, api.ErrFull, counter())
	now := replay(t, was.Log(), 2, 2)
	sameBooks(t, "behind refused calls", now, was)
}

// With batches of another size other programs are decided by the same entries.
func TestP11AnotherBatch(t *testing.T) {
	was := bookWith(t, 2, code(put("a", 0)), code(put("b", 0)), code(put("c", 0)), code(put("d", 0)))
	was.Batch()
	handIn(t, was, code(put("e", 0)))
	was.Batch()
	for batch, decided := range map[int]int{1: 2, 2: 4, 3: 5, 4: 5, 8: 5} {
		b := replay(t, was.Log(), batch, 2)
		if b.Log() != was.Log() {
			t.Errorf("batches of %d: the log is %x, want %x", batch, b.Log(), was.Log())
		}
		if n := len(b.All()); n != decided {
			t.Errorf("batches of %d: %d keys, want %d", batch, n, decided)
		}
		for id := 1; id <= 5; id++ {
			number := (id-1)/batch + 1
			if id == 5 && batch > 2 {
				number = 2
			}
			if d, e := b.Result(id); id <= decided && (e != api.OK || d.Batch != number) || id > decided && e != api.ErrWaits {
				t.Errorf("batches of %d: Result(%d) = %v, %d", batch, id, d, e)
			}
		}
	}
}

// A batch that decided something when it was written may find nothing that waits, where batches are greater: there it ends.
func TestP11AnotherBatchEndsEarlier(t *testing.T) {
	three := [][]api.Ins{code(put("a", 0)), code(put("b", 0)), code(put("c", 0))}
	was := bookWith(t, 1, three...)
	was.Flush()
	handIn(t, was, counter())
	for batch, batches := range map[int]int{1: 3, 2: 2, 3: 1, 8: 1} {
		want := bookWith(t, batch, three...)
		for range batches {
			want.Batch()
		}
		if batch == 1 {
			handIn(t, want, counter())
		}
		sameBooks(t, fmt.Sprint("batches of ", batch), replay(t, was.Log(), batch, 2), want)
	}
}

// By chance, with any size of batches: as if the same calls had been made, up to the first batch of nothing.
func TestP11AnotherBatchByChance(t *testing.T) {
	for seed := range uint64(200) {
		chance := rand.New(rand.NewPCG(seed, 13))
		steps := anySteps(chance, chance.IntN(61))
		for range chance.IntN(20) {
			steps = append(steps, nil)
		}
		log := done(t, 1, 2, steps).Log()
		batch := 1 + chance.IntN(8)
		m := &model{batch: batch, book: map[string]int{}}
		could := 0
		for _, code := range steps {
			if code == nil && len(m.waiting) == 0 {
				break
			}
			could++
			if code == nil {
				m.runBatch()
				continue
			}
			m.programs = append(m.programs, code)
			m.waiting = append(m.waiting, len(m.programs))
		}
		b := replay(t, log, batch, 2)
		holds(t, b, pairsOf(m.book)...)
		waits(t, b, m.waiting...)
		if b.Log() != log[:len(b.Log())] {
			t.Errorf("seed %d: the log is not the beginning of what was replayed", seed)
		}
		sameBooks(t, fmt.Sprint("seed ", seed), b, done(t, batch, 3, steps[:could]))
	}
}

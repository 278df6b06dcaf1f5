package ariabook_test

import (
	"fmt"
	"math/rand/v2"
	"slices"
	"testing"

	"ariabook/api"
	"ariabook/ariabook"
)

// everyCut hands Replay the log behind the steps, cut off behind each of its bytes.
func everyCut(t *testing.T, batch int, steps [][]api.Ins) {
	t.Helper()
	moments := momentsOf(t, batch, steps)
	log := moments[len(moments)-1].log
	for size := range len(log) + 1 {
		want := lastWithin(moments, size)
		b := replay(t, log[:size], batch, 1+size%5)
		if b.Log() != want.log {
			t.Fatalf("of the first %d bytes of %x the log is %x, want %x", size, log, b.Log(), want.log)
		}
		if state(b) != want.state {
			t.Fatalf("of the first %d bytes of %x the book tells\n%s\nwant\n%s", size, log, state(b), want.state)
		}
	}
}

func TestP12CutOffAnywhere(t *testing.T) {
	for batch := 1; batch <= 8; batch++ {
		everyCut(t, batch, [][]api.Ins{counter(), counter(), nil, code(put("a", 0)), counter(), code(fail()), nil, nil, code(get(0, "x"), out(0), del("x")), nil, counter()})
	}
	for seed := range uint64(12) {
		chance := rand.New(rand.NewPCG(seed, 14))
		everyCut(t, 1+chance.IntN(8), anySteps(chance, 12))
	}
}

func TestP12CutOffFullBook(t *testing.T) {
	steps := slices.Repeat([][]api.Ins{counter(), counter(), nil}, 30)
	everyCut(t, 3, append(steps, nil, nil, nil))
}

// Behind a log that was cut off the book goes on as it would have gone on then.
func TestP12GoesOnBehindTheCut(t *testing.T) {
	for seed := range uint64(10) {
		chance := rand.New(rand.NewPCG(seed, 15))
		batch, steps := 1+chance.IntN(8), anySteps(chance, 15)
		moments := momentsOf(t, batch, steps)
		log := moments[len(moments)-1].log
		for n, m := range moments {
			size := len(log)
			if n+1 < len(moments) {
				size = len(m.log) + chance.IntN(len(moments[n+1].log)-len(m.log))
			}
			sameBooks(t, fmt.Sprintf("seed %d, %d bytes", seed, size), replay(t, log[:size], batch, 2), done(t, batch, 4, steps[:n]))
		}
	}
}

// A log that Replay left whole may be handed to it again.
func TestP12ReplayOfAReplay(t *testing.T) {
	for seed := range uint64(40) {
		chance := rand.New(rand.NewPCG(seed, 16))
		batch := 1 + chance.IntN(8)
		log := done(t, batch, 3, anySteps(chance, 20)).Log()
		once := replay(t, log[:chance.IntN(len(log)+1)], batch, 2)
		sameBooks(t, fmt.Sprint("seed ", seed), replay(t, once.Log(), batch, 5), once)
	}
}

// tellings runs batches till nothing waits and gives all that they told, in that order.
func tellings(b *ariabook.Book) []api.Done {
	var all []api.Done
	for {
		l := b.Batch()
		if len(l) == 0 {
			return all
		}
		all = append(all, l...)
	}
}

// inTurn looks whether what was told is an order in which the programs, run one behind the other, do just this.
func inTurn(t *testing.T, b *ariabook.Book, programs [][]api.Ins, dones []api.Done) {
	t.Helper()
	if len(dones) != len(programs) {
		t.Fatalf("%d of %d programs were told", len(dones), len(programs))
	}
	book := oneBehindTheOther(t, programs, dones)
	holds(t, b, pairsOf(book)...)
}

func TestP12Order(t *testing.T) {
	for batch := 1; batch <= 8; batch++ {
		b := bookWith(t, batch, busy()...)
		inTurn(t, b, busy(), tellings(b))
	}
	for seed := range uint64(300) {
		chance := rand.New(rand.NewPCG(seed, 17))
		var programs [][]api.Ins
		for range 60 {
			programs = append(programs, anyProgram(chance))
		}
		b := bookWith(t, 1+chance.IntN(8), programs...)
		inTurn(t, b, programs, tellings(b))
	}
}

// What a book told, and what the one told further that Replay made of it, are one order.
func TestP12OrderBehindReplay(t *testing.T) {
	for seed := range uint64(100) {
		chance := rand.New(rand.NewPCG(seed, 18))
		var programs [][]api.Ins
		for range 40 {
			programs = append(programs, anyProgram(chance))
		}
		batch := 1 + chance.IntN(8)
		was := bookWith(t, batch, programs...)
		var dones []api.Done
		for range chance.IntN(8) {
			dones = append(dones, was.Batch()...)
		}
		now := replay(t, was.Log(), batch, 2)
		inTurn(t, now, programs, append(dones, tellings(now)...))
	}
}

// deadlines runs batches till nothing waits, and looks whether the first of each is decided, and the i-th by the i-th batch from it on.
func deadlines(t *testing.T, b *ariabook.Book, batch, programs int) {
	t.Helper()
	var waiting []int
	for id := 1; id <= programs; id++ {
		waiting = append(waiting, id)
	}
	latest := map[int]int{}
	for number := 1; len(waiting) > 0; number++ {
		members := waiting[:min(batch, len(waiting))]
		for i, id := range members {
			if last, is := latest[id]; !is || last > number+i {
				latest[id] = number + i
			}
		}
		decided := map[int]bool{}
		for _, d := range b.Batch() {
			decided[d.ID] = true
		}
		if !decided[members[0]] {
			t.Fatalf("batch %d did not decide its first, %d", number, members[0])
		}
		for _, id := range members {
			if !decided[id] && latest[id] <= number {
				t.Errorf("program %d is not decided in batch %d", id, number)
			}
		}
		waiting = slices.DeleteFunc(waiting, func(id int) bool { return decided[id] })
	}
	nothingIsDone(t, b)
}

func TestP12Progress(t *testing.T) {
	for batch := 1; batch <= 8; batch++ {
		deadlines(t, bookWith(t, batch, slices.Repeat([][]api.Ins{counter()}, 60)...), batch, 60)
		deadlines(t, bookWith(t, batch, busy()...), batch, len(busy()))
		replayed := replay(t, bookWith(t, 8, busy()...).Log(), batch, 2)
		deadlines(t, replayed, batch, len(busy()))
	}
	for seed := range uint64(200) {
		chance := rand.New(rand.NewPCG(seed, 19))
		batch := 1 + chance.IntN(8)
		b := bookOf(t, batch, 4)
		for range 60 {
			handIn(t, b, anyProgram(chance))
		}
		deadlines(t, b, batch, 60)
	}
}

// Each is in the way of all behind it: the i-th is decided just in the i-th batch, no sooner.
func TestP12EachInItsTurn(t *testing.T) {
	b := bookWith(t, 8, slices.Repeat([][]api.Ins{counter()}, 8)...)
	for n := 1; n <= 8; n++ {
		batchTells(t, b, fmt.Sprintf(" %d+%d", n, n))
	}
	holds(t, b, api.Pair{Key: "x", Number: 8})
}

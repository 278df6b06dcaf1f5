// Package ariabook: a book of keys and numbers, changed in batches: see DOC.md.
package ariabook

import (
	"ariabook/api"
	"ariabook/batches"
	"ariabook/journal"
	"ariabook/keys"
	"ariabook/numbers"
	"ariabook/program"
)

// Book is a book.
type Book struct {
	batch, workers int
	numbers        numbers.Numbers
	results        []api.Done // of each program handed in, by its number; empty while it waits
	waiting        []waiter   // by rising numbers
	batchesRun     int
	log            []byte
}

// waiter is a program that waits, and its number.
type waiter struct {
	id   int
	code program.Program
}

// New makes an empty book (P3).
func New(batch, workers int) (*Book, api.Errno) {
	if batch < 1 || batch > api.MaxBatch || workers < 1 || workers > api.MaxWorkers {
		return nil, api.ErrArg
	}
	return &Book{batch: batch, workers: workers, numbers: numbers.Numbers{}}, api.OK
}

// Submit hands a program in (P4).
func (b *Book) Submit(code []api.Ins) (int, api.Errno) {
	p, ok := program.Of(code)
	if !ok {
		return 0, api.ErrProc
	}
	if len(b.results) == api.MaxProcs {
		return 0, api.ErrFull
	}
	b.results = append(b.results, api.Done{})
	id := len(b.results)
	b.waiting = append(b.waiting, waiter{id: id, code: p})
	b.log = journal.Append(b.log, journal.HandedIn, p.Payload())
	return id, api.OK
}

// Log tells all that was handed in and done, as bytes (P5).
func (b *Book) Log() string { return string(b.log) }

// Batch runs a batch (P6 to P8).
func (b *Book) Batch() []api.Done {
	if len(b.waiting) == 0 {
		return nil
	}
	b.batchesRun++
	b.log = journal.Append(b.log, journal.BatchRun, nil)
	size := min(b.batch, len(b.waiting))
	first, rest := b.waiting[:size], b.waiting[size:]
	runs := batches.Run(codesOf(first), b.numbers, b.workers)
	decided, undecided := batches.Decide(runs)
	b.waiting = backAhead(first, undecided, rest)
	told := make([]api.Done, 0, len(decided))
	for _, place := range decided {
		told = append(told, b.settle(first[place].id, runs[place]))
	}
	return told
}

func codesOf(waiters []waiter) []program.Program {
	var codes []program.Program
	for _, w := range waiters {
		codes = append(codes, w.code)
	}
	return codes
}

// backAhead gives those at the places and, behind them, the rest: in new memory, so that no code of a decided program is kept.
func backAhead(from []waiter, places []int, rest []waiter) []waiter {
	var waiting []waiter
	for _, place := range places {
		waiting = append(waiting, from[place])
	}
	return append(waiting, rest...)
}

// settle does in the book what the program wrote, and notes how it was decided.
func (b *Book) settle(id int, run program.Run) api.Done {
	done := api.Done{ID: id, Batch: b.batchesRun, Outcome: api.Committed, Output: run.Output}
	if run.Failed {
		done.Outcome = api.Failed
	}
	b.numbers.Do(run.Writes)
	b.results[id-1] = done
	return done
}

// Flush runs batches till nothing waits (P9). It ends: the first of a batch has no flag, so each batch decides one at least.
func (b *Book) Flush() int {
	before := b.batchesRun
	for len(b.waiting) > 0 {
		b.Batch()
	}
	return b.batchesRun - before
}

// Result tells how a program was decided (P9).
func (b *Book) Result(id int) (api.Done, api.Errno) {
	if id < 1 || id > len(b.results) {
		return api.Done{}, api.ErrNone
	}
	done := b.results[id-1]
	if done == (api.Done{}) {
		return api.Done{}, api.ErrWaits
	}
	return done, api.OK
}

// Get tells a key's number (P10). A text that is no key gives the key that is none, under which no number ever is.
func (b *Book) Get(key string) (int, api.Errno) {
	number, has := b.numbers[keys.Of(key)]
	if !has {
		return 0, api.ErrNone
	}
	return number, api.OK
}

// All tells all keys (P10).
func (b *Book) All() []api.Pair {
	var all []api.Pair
	for key, number := range b.numbers.InOrder() {
		all = append(all, api.Pair{Key: key.Text(), Number: number})
	}
	return all
}

// Replay makes a book of a log's bytes (P11). The calls that it makes again write the same entries again, so the new log needs no other care.
func Replay(log string, batch, workers int) (*Book, api.Errno) {
	b, e := New(batch, workers)
	if e != api.OK {
		return nil, e
	}
	for entry := range journal.Entries(log) {
		if !b.redo(entry) {
			break
		}
	}
	return b, api.OK
}

// redo does what the entry tells; false, and nothing is done, if it tells of no program that may be handed in, and of no batch while something waits. (A batch that is run tells its first at least.)
func (b *Book) redo(entry journal.Entry) bool {
	switch entry.Kind {
	case journal.HandedIn:
		_, e := b.Submit(program.Code(entry.Payload))
		return e == api.OK
	case journal.BatchRun:
		return entry.Payload == "" && len(b.Batch()) > 0
	}
	return false
}

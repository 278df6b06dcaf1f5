// Package ariabook: a book of keys and numbers, changed in batches: see DOC.md.
package ariabook

import (
	"ariabook/api"
	"ariabook/journal"
	"ariabook/program"
)

// Book is a book.
type Book struct {
	batch, workers int
	handedIn       int // how many programs: the last one's number
	waiting        []waiter
	log            []byte
}

// waiter is a program that waits, and its number.
type waiter struct {
	id   int
	code program.Program
}

// New makes an empty book (P3).
func New(batch, workers int) (*Book, api.Errno) {
	if batch < 1 || batch > api.MaxBatch || workers < 1 || workers > api.MaxWorkers {
		return nil, api.ErrArg
	}
	return &Book{batch: batch, workers: workers}, api.OK
}

// Submit hands a program in (P4).
func (b *Book) Submit(code []api.Ins) (int, api.Errno) {
	p, ok := program.Of(code)
	if !ok {
		return 0, api.ErrProc
	}
	if b.handedIn == api.MaxProcs {
		return 0, api.ErrFull
	}
	b.handedIn++
	b.waiting = append(b.waiting, waiter{id: b.handedIn, code: p})
	b.log = journal.Append(b.log, journal.HandedIn, p.Payload())
	return b.handedIn, api.OK
}

// Log tells all that was handed in and done, as bytes (P5).
func (b *Book) Log() string { return string(b.log) }

// Batch runs a batch (P6 to P8).
func (b *Book) Batch() []api.Done { return nil }

// Flush runs batches till nothing waits (P9).
func (b *Book) Flush() int { return 0 }

// Result tells how a program was decided (P9).
func (b *Book) Result(id int) (api.Done, api.Errno) { return api.Done{}, api.OK }

// Get tells a key's number (P10).
func (b *Book) Get(key string) (int, api.Errno) { return 0, api.OK }

// All tells all keys (P10).
func (b *Book) All() []api.Pair { return nil }

// Replay makes a book of a log's bytes (P11).
func Replay(log string, batch, workers int) (*Book, api.Errno) { return nil, api.OK }

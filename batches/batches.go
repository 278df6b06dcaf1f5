// Package batches: the programs of a batch are run beside one another, and then it is decided which of them stand.
package batches

import (
	"slices"
	"sync"

	"ariabook/numbers"
	"ariabook/program"
)

// Run runs the programs on the book, at most workers at a time, and gives what came of each, at its place.
func Run(programs []program.Program, book numbers.Numbers, workers int) []program.Run {
	runs := make([]program.Run, len(programs))
	share(len(programs), workers, func(place int) {
		runs[place] = programs[place].Run(book)
	})
	return runs
}

// share does all places below count, each once, at most workers at a time. Each worker has places of its own, so that none needs a lock.
func share(count, workers int, do func(place int)) {
	var group sync.WaitGroup
	for worker := range min(workers, count) {
		group.Add(1)
		go func() {
			defer group.Done()
			for place := worker; place < count; place += workers {
				do(place)
			}
		}()
	}
	group.Wait()
}

// flags tell how a program is in the way of earlier ones of its batch.
type flags struct {
	write, read, wait bool
}

// Decide takes the runs of a batch, by rising numbers of the programs, and gives their places: of those that are decided, in the order in which they are told, and of those that go on waiting, by rising numbers.
func Decide(runs []program.Run) (decided, waiting []int) {
	var others []int
	for place, run := range runs {
		f := flagsOf(run, runs[:place])
		switch {
		case f.write || f.read && f.wait:
			waiting = append(waiting, place)
		case f.read:
			decided = append(decided, place)
		default:
			others = append(others, place)
		}
	}
	// What has a read flag has read what was there ahead of the earlier one's write, so it is told ahead of it.
	slices.Reverse(decided)
	return append(decided, others...), waiting
}

// flagsOf counts all earlier ones, also those that go on waiting: what is decided of one does not hang on what is decided of others.
func flagsOf(run program.Run, earlier []program.Run) flags {
	var f flags
	for _, e := range earlier {
		for _, change := range run.Writes {
			f.write = f.write || e.DoesWrite(change.Key)
			f.wait = f.wait || e.DoesRead(change.Key)
		}
		for _, key := range run.Reads {
			f.read = f.read || e.DoesWrite(key)
		}
	}
	return f
}

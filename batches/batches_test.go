package batches

import (
	"runtime"
	"slices"
	"sync"
	"sync/atomic"
	"testing"

	"ariabook/api"
	"ariabook/keys"
	"ariabook/numbers"
	"ariabook/program"
)

func TestShareDoesEachPlaceOnce(t *testing.T) {
	for count := range 12 {
		for workers := 1; workers <= 5; workers++ {
			times := make([]int, count)
			share(count, workers, func(place int) { times[place]++ })
			if want := slices.Repeat([]int{1}, count); !slices.Equal(times, want) {
				t.Errorf("share(%d, %d) did %v", count, workers, times)
			}
		}
	}
}

func TestShareHasAtMostThatManyWorkers(t *testing.T) {
	for count := 1; count <= 8; count++ {
		for workers := 1; workers <= 5; workers++ {
			var now, most atomic.Int64
			share(count, workers, func(place int) {
				n := now.Add(1)
				for m := most.Load(); n > m && !most.CompareAndSwap(m, n); m = most.Load() {
				}
				for range 1000 { // time for the others to begin, if there are more than may be
					runtime.Gosched()
				}
				now.Add(-1)
			})
			if most.Load() > int64(workers) {
				t.Errorf("share(%d, %d): %d at a time", count, workers, most.Load())
			}
		}
	}
}

// As many as there are workers do meet: this would not end if they ran one behind the other.
func TestShareRunsBesideOneAnother(t *testing.T) {
	for workers := 1; workers <= 5; workers++ {
		var meeting sync.WaitGroup
		meeting.Add(workers)
		share(workers, workers, func(place int) {
			meeting.Done()
			meeting.Wait()
		})
	}
}

func programOf(t *testing.T, code ...api.Ins) program.Program {
	t.Helper()
	p, ok := program.Of(code)
	if !ok {
		t.Fatalf("%v is no program", code)
	}
	return p
}

func TestRunGivesEachAtItsPlace(t *testing.T) {
	book := numbers.Numbers{keys.Of("a"): 10}
	var programs []program.Program
	for n := range 8 {
		programs = append(programs, programOf(t, api.Ins{Op: api.Get, Key: "a"}, api.Ins{Op: api.Set, R: 1, N: n}, api.Ins{Op: api.Add, S: 1}, api.Ins{Op: api.Put, Key: "a"}, api.Ins{Op: api.Out}, api.Ins{Op: api.Div, S: 1}))
	}
	for workers := 1; workers <= 5; workers++ {
		runs := Run(programs, book, workers)
		for n, run := range runs {
			if n == 0 && !run.Failed || n > 0 && run.Output != 10+n {
				t.Errorf("%d workers: at place %d there is %v", workers, n, run)
			}
		}
		if len(runs) != 8 || len(book) != 1 || book[keys.Of("a")] != 10 {
			t.Errorf("%d workers: %d runs, and the book is %v", workers, len(runs), book)
		}
	}
	if runs := Run(nil, book, 3); len(runs) != 0 {
		t.Errorf("Run of nothing = %v", runs)
	}
}

// runOf is a run that reads and writes keys of one letter each.
func runOf(reads, writes string) program.Run {
	var r program.Run
	for _, c := range reads {
		r.Reads = append(r.Reads, keys.Of(string(c)))
	}
	for _, c := range writes {
		r.Writes = append(r.Writes, numbers.Change{Key: keys.Of(string(c))})
	}
	return r
}

func TestFlagsOf(t *testing.T) {
	for _, c := range []struct {
		run     program.Run
		earlier []program.Run
		want    flags
	}{
		{runOf("ab", "ab"), nil, flags{}},
		{runOf("ab", "cd"), []program.Run{runOf("ab", "ef")}, flags{}},
		{runOf("", "d"), []program.Run{runOf("ab", "cd")}, flags{write: true}},
		{runOf("d", ""), []program.Run{runOf("ab", "cd")}, flags{read: true}},
		{runOf("", "b"), []program.Run{runOf("ab", "cd")}, flags{wait: true}},
		{runOf("c", "d"), []program.Run{runOf("ab", "cd")}, flags{write: true, read: true}},
		{runOf("x", "db"), []program.Run{runOf("ab", "cd")}, flags{write: true, wait: true}},
		{runOf("d", "a"), []program.Run{runOf("ab", "cd")}, flags{read: true, wait: true}},
		{runOf("c", "ad"), []program.Run{runOf("ab", "cd")}, flags{write: true, read: true, wait: true}},
		{runOf("c", "ad"), []program.Run{runOf("a", ""), runOf("", "c"), runOf("", "d"), runOf("", "")}, flags{write: true, read: true, wait: true}},
	} {
		if f := flagsOf(c.run, c.earlier); f != c.want {
			t.Errorf("flagsOf(%v, %v) = %v, want %v", c.run, c.earlier, f, c.want)
		}
	}
}

func TestDecide(t *testing.T) {
	for _, c := range []struct {
		runs             []program.Run
		decided, waiting []int
	}{
		{nil, nil, nil},
		{[]program.Run{runOf("a", "a")}, []int{0}, nil},
		{[]program.Run{runOf("a", "a"), runOf("a", "a"), runOf("a", "a")}, []int{0}, []int{1, 2}},
		{[]program.Run{runOf("", "a"), runOf("a", ""), runOf("", ""), runOf("a", ""), runOf("", "a"), runOf("", "b")}, []int{3, 1, 0, 2, 5}, []int{4}},
		{[]program.Run{runOf("b", "a"), runOf("a", "b"), runOf("", "c"), runOf("b", "")}, []int{3, 0, 2}, []int{1}},
	} {
		decided, waiting := Decide(c.runs)
		if !slices.Equal(decided, c.decided) || !slices.Equal(waiting, c.waiting) {
			t.Errorf("Decide(%v) = %v, %v, want %v, %v", c.runs, decided, waiting, c.decided, c.waiting)
		}
	}
}

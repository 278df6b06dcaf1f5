package ariabook_test

import (
	"fmt"
	"slices"
	"testing"

	"ariabook/api"
	"ariabook/ariabook"
)

// roomy is a program at the front of a longer list, so that there is spare room behind it.
func roomy(code []api.Ins) (whole, front []api.Ins) {
	whole = slices.Concat(code, slices.Repeat([]api.Ins{{Op: 77, R: 78, S: 79, N: 80, Key: "spare"}}, 30))
	return whole, whole[:len(code)]
}

func TestP2WritesIntoNothingHandedIn(t *testing.T) {
	b := book(t)
	codes := append(mixed(), nil, []api.Ins{{Op: 12}}, []api.Ins{{Op: api.Get, Key: "abcde"}}, []api.Ins{{Op: api.Add, N: 7, Key: "not needed"}}, make([]api.Ins, 21))
	for _, code := range codes {
		whole, front := roomy(code)
		before := slices.Clone(whole)
		b.Submit(front)
		if !slices.Equal(whole, before) {
			t.Errorf("Submit(%v) wrote into it, or behind it: %v", code, whole)
		}
	}
	whole, front := roomy(mixed()[0])
	before := slices.Clone(whole)
	fill(t, b, 6)
	refuse(t, b, api.ErrFull, front)
	if !slices.Equal(whole, before) {
		t.Error("Submit to a full book wrote into what was handed in")
	}
}

func TestP2KeepsNothingOfTheCaller(t *testing.T) {
	changed, unchanged := book(t), book(t)
	for i, code := range mixed() {
		accept(t, unchanged, i+1, code)
		whole, front := roomy(code)
		accept(t, changed, i+1, front)
		for k := range whole {
			whole[k] = api.Ins{Op: api.Set, R: 2, S: 2, N: 2, Key: "b"}
		}
		if changed.Log() != unchanged.Log() {
			t.Errorf("the log hangs on what the caller writes behind Submit(%v)", code)
		}
	}
}

func TestP2EarlierAnswersStay(t *testing.T) {
	b := book(t)
	var logs, copies []string
	for i := range 60 {
		accept(t, b, i+1, mixed()[i%4])
		logs = append(logs, b.Log())
		copies = append(copies, string([]byte(logs[i])))
	}
	if !slices.Equal(logs, copies) {
		t.Error("a later Submit changed an earlier answer of Log")
	}
	if b.Log() != b.Log() {
		t.Error("Log changes the log")
	}
}

func TestP2BooksDoNotTouch(t *testing.T) {
	var alone []string
	for first := range 4 {
		b := book(t)
		for i := range 60 {
			accept(t, b, i+1, mixed()[(first+i)%4])
		}
		alone = append(alone, b.Log())
	}
	books := []*ariabook.Book{book(t), book(t), book(t), book(t)}
	empty := book(t)
	for i := range 60 {
		for first, b := range books {
			accept(t, b, i+1, mixed()[(first+i)%4])
			refuse(t, b, api.ErrProc, nil)
		}
	}
	for first, b := range books {
		refuse(t, b, api.ErrFull, mixed()[0])
		if b.Log() != alone[first] {
			t.Errorf("book %d has another log among others than alone", first)
		}
	}
	if empty.Log() != "" {
		t.Error("a book in which nothing was handed in has a log")
	}
	accept(t, empty, 1, mixed()[0])
}

// busy are programs that are in one another's way in all ways, and fail in all ways.
func busy() [][]api.Ins {
	return slices.Concat(mixed(), [][]api.Ins{
		counter(), code(get(0, "x"), out(0), put("y", 0)), counter(), code(get(0, "y"), put("x", 0)), code(del("x"), put("abcd", 2)), code(has(0, "abcd"), out(0)),
		code(get(0, "x"), get(1, "z"), div(0, 1), put("z", 0)), code(set(0, 1), put("p", 0), jump(0, 1)), code(put("p", 0), put("q", 0), put("r", 0), put("s", 0), put("t", 0)), code(put("p", 0), put("q", 0), put("r", 0), put("s", 0)), counter(),
	})
}

// transcript does the same with the book whatever it is, and writes down all that it answers.
func transcript(b *ariabook.Book, programs [][]api.Ins) string {
	s := ""
	note := func() {
		s += fmt.Sprintf("%v %x\n", b.All(), b.Log())
		for id := range 62 {
			s += fmt.Sprintln(b.Result(id))
		}
		for _, key := range []string{"x", "y", "z", "abcd", "p", "q", "t", "none", ""} {
			s += fmt.Sprintln(b.Get(key))
		}
	}
	for i, c := range programs {
		s += fmt.Sprintln(b.Submit(c))
		if i%5 == 4 {
			s += fmt.Sprintln(b.Batch())
			note()
		}
	}
	s += fmt.Sprintln(b.Batch(), b.Batch(), b.Flush(), b.Flush(), b.Batch())
	note()
	return s
}

func TestP2NothingHangsOnTheWorkers(t *testing.T) {
	for batch := 1; batch <= 8; batch++ {
		want := transcript(bookOf(t, batch, 1), busy())
		for workers := 1; workers <= 5; workers++ {
			for range 10 {
				if got := transcript(bookOf(t, batch, workers), busy()); got != want {
					t.Fatalf("New(%d, %d) answers otherwise than with 1 worker", batch, workers)
				}
			}
		}
	}
}

// spoil writes into all of a list, its spare room too, and grows it.
func spoil[T any](list []T, with T) {
	list = list[:cap(list)]
	for i := range list {
		list[i] = with
	}
	for range 20 {
		list = append(list, with)
	}
	for i := range list {
		list[i] = with
	}
}

func TestP2ListsThatComeOutAreTheCallers(t *testing.T) {
	spoiled, left := bookOf(t, 3, 3), bookOf(t, 3, 3)
	handIn(t, spoiled, busy()...)
	handIn(t, left, busy()...)
	for {
		one, other := spoiled.Batch(), left.Batch()
		if !slices.Equal(one, other) {
			t.Fatalf("Batch = %v behind lists that were written over, else %v", one, other)
		}
		if len(one) == 0 {
			break
		}
		spoil(one, api.Done{ID: 77, Batch: 78, Outcome: 79, Output: 80})
		spoil(spoiled.All(), api.Pair{Key: "spoilt", Number: 81})
		if !slices.Equal(spoiled.All(), left.All()) {
			t.Errorf("All = %v behind lists that were written over, else %v", spoiled.All(), left.All())
		}
		for id := 1; id <= len(busy()); id++ {
			d, e := spoiled.Result(id)
			if want, wantErr := left.Result(id); d != want || e != wantErr {
				t.Errorf("Result(%d) = %v, %d behind lists that were written over, else %v, %d", id, d, e, want, wantErr)
			}
		}
	}
	if spoiled.Log() != left.Log() {
		t.Error("the log hangs on what the caller wrote into lists")
	}
}

func TestP2EarlierListsStay(t *testing.T) {
	b := bookWith(t, 3, busy()...)
	var tellings, told [][]api.Done
	var alls, pairs [][]api.Pair
	for range 20 {
		l, all := b.Batch(), b.All()
		tellings, told = append(tellings, l), append(told, slices.Clone(l))
		alls, pairs = append(alls, all), append(pairs, slices.Clone(all))
	}
	for i := range tellings {
		if !slices.Equal(tellings[i], told[i]) || !slices.Equal(alls[i], pairs[i]) {
			t.Errorf("behind batch %d a later call changed an earlier answer", i+1)
		}
	}
}

// The program runs as it was handed in, whatever the caller writes there since.
func TestP2RunsWhatWasHandedIn(t *testing.T) {
	b := bookOf(t, 2, 2)
	for range 3 {
		whole, front := roomy(counter())
		handIn(t, b, front)
		for i := range whole {
			whole[i] = fail()
		}
	}
	batchTells(t, b, " 1+1")
	batchTells(t, b, " 2+2")
	batchTells(t, b, " 3+3")
}

func TestP2BooksDoNotTouchInBatches(t *testing.T) {
	alone := transcript(bookOf(t, 4, 2), busy())
	other := bookWith(t, 8, busy()...)
	other.Batch()
	before := fmt.Sprint(other.All(), other.Log())
	if transcript(bookOf(t, 4, 2), busy()) != alone {
		t.Error("a book answers otherwise among others than alone")
	}
	if fmt.Sprint(other.All(), other.Log()) != before {
		t.Error("a book is changed by what is asked of another")
	}
}

// Calls that only tell change nothing.
func TestP2TellingChangesNothing(t *testing.T) {
	asked, left := bookOf(t, 3, 2), bookOf(t, 3, 2)
	handIn(t, asked, busy()...)
	handIn(t, left, busy()...)
	for range 20 {
		asked.All()
		asked.Log()
		for id := range 62 {
			asked.Result(id)
		}
		asked.Get("none")
		asked.Get("x")
		if one, other := asked.Batch(), left.Batch(); !slices.Equal(one, other) {
			t.Errorf("Batch = %v behind calls that tell, else %v", one, other)
		}
	}
	if !slices.Equal(asked.All(), left.All()) || asked.Log() != left.Log() {
		t.Error("calls that tell changed the book")
	}
}

// A book and the one that Replay made of its log go their own ways: each answers as if the other had never been.
func TestP2ReplayedBooksDoNotTouch(t *testing.T) {
	steps := slices.Concat(busy(), [][]api.Ins{nil, nil, nil}, mixed())
	was := done(t, 3, 2, steps)
	now, again := replay(t, was.Log(), 3, 4), replay(t, was.Log(), 3, 1)
	before := state(was)
	handIn(t, now, code(set(0, 77), put("x", 0), del("abcd")), counter())
	now.Batch()
	now.Flush()
	if state(was) != before || state(again) != before {
		t.Error("what was asked of a replayed book changed another")
	}
	ahead := state(now)
	alone := transcript(done(t, 3, 2, steps), busy())
	if transcript(was, busy()) != alone {
		t.Error("a book that was replayed goes on otherwise than one that was not")
	}
	if state(now) != ahead {
		t.Error("what was asked of a book changed the one that was replayed of it")
	}
	if transcript(again, busy()) != alone {
		t.Error("a replayed book goes on otherwise when others have gone on ahead of it")
	}
}

func TestP2ReplayedListsAreTheCallers(t *testing.T) {
	log := done(t, 3, 2, slices.Concat(busy(), [][]api.Ins{nil, nil})).Log()
	spoiled, left := replay(t, log, 3, 2), replay(t, log, 3, 2)
	for range len(busy()) {
		one, other := spoiled.Batch(), left.Batch()
		if !slices.Equal(one, other) {
			t.Fatalf("Batch = %v behind lists that were written over, else %v", one, other)
		}
		spoil(one, api.Done{ID: 77, Batch: 78, Outcome: 79, Output: 80})
		spoil(spoiled.All(), api.Pair{Key: "spoilt", Number: 81})
		if state(spoiled) != state(left) {
			t.Fatal("a replayed book hangs on what the caller wrote into lists")
		}
	}
}

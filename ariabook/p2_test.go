package ariabook_test

import (
	"slices"
	"testing"

	"ariabook/api"
	"ariabook/ariabook"
)

// roomy is a program at the front of a longer list, so that there is spare room behind it.
func roomy(code []api.Ins) (whole, front []api.Ins) {
	whole = slices.Concat(code, slices.Repeat([]api.Ins{{Op: 77, R: 78, S: 79, N: 80, Key: "spare"}}, 30))
	return whole, whole[:len(code)]
}

func TestP2WritesIntoNothingHandedIn(t *testing.T) {
	b := book(t)
	codes := append(mixed(), nil, []api.Ins{{Op: 12}}, []api.Ins{{Op: api.Get, Key: "abcde"}}, []api.Ins{{Op: api.Add, N: 7, Key: "not needed"}}, make([]api.Ins, 21))
	for _, code := range codes {
		whole, front := roomy(code)
		before := slices.Clone(whole)
		b.Submit(front)
		if !slices.Equal(whole, before) {
			t.Errorf("Submit(%v) wrote into it, or behind it: %v", code, whole)
		}
	}
	whole, front := roomy(mixed()[0])
	before := slices.Clone(whole)
	fill(t, b, 6)
	refuse(t, b, api.ErrFull, front)
	if !slices.Equal(whole, before) {
		t.Error("Submit to a full book wrote into what was handed in")
	}
}

func TestP2KeepsNothingOfTheCaller(t *testing.T) {
	changed, unchanged := book(t), book(t)
	for i, code := range mixed() {
		accept(t, unchanged, i+1, code)
		whole, front := roomy(code)
		accept(t, changed, i+1, front)
		for k := range whole {
			whole[k] = api.Ins{Op: api.Set, R: 2, S: 2, N: 2, Key: "b"}
		}
		if changed.Log() != unchanged.Log() {
			t.Errorf("the log hangs on what the caller writes behind Submit(%v)", code)
		}
	}
}

func TestP2EarlierAnswersStay(t *testing.T) {
	b := book(t)
	var logs, copies []string
	for i := range 60 {
		accept(t, b, i+1, mixed()[i%4])
		logs = append(logs, b.Log())
		copies = append(copies, string([]byte(logs[i])))
	}
	if !slices.Equal(logs, copies) {
		t.Error("a later Submit changed an earlier answer of Log")
	}
	if b.Log() != b.Log() {
		t.Error("Log changes the log")
	}
}

func TestP2BooksDoNotTouch(t *testing.T) {
	var alone []string
	for first := range 4 {
		b := book(t)
		for i := range 60 {
			accept(t, b, i+1, mixed()[(first+i)%4])
		}
		alone = append(alone, b.Log())
	}
	books := []*ariabook.Book{book(t), book(t), book(t), book(t)}
	empty := book(t)
	for i := range 60 {
		for first, b := range books {
			accept(t, b, i+1, mixed()[(first+i)%4])
			refuse(t, b, api.ErrProc, nil)
		}
	}
	for first, b := range books {
		refuse(t, b, api.ErrFull, mixed()[0])
		if b.Log() != alone[first] {
			t.Errorf("book %d has another log among others than alone", first)
		}
	}
	if empty.Log() != "" {
		t.Error("a book in which nothing was handed in has a log")
	}
	accept(t, empty, 1, mixed()[0])
}

func TestP2NothingHangsOnTheWorkers(t *testing.T) {
	want := ""
	for batch := 1; batch <= 8; batch++ {
		for workers := 1; workers <= 5; workers++ {
			b := bookOf(t, batch, workers)
			for i, code := range mixed() {
				accept(t, b, i+1, code)
			}
			if want == "" {
				want = b.Log()
			}
			if b.Log() != want {
				t.Errorf("New(%d, %d): another log", batch, workers)
			}
		}
	}
}

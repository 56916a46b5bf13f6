package benches_test

import (
	"bytes"
	"reflect"
	"testing"

	"leadlight/api"
	"leadlight/benches"
)

// spoil changes all that lists of a value hold.
func spoil(x any) { spoilValue(reflect.ValueOf(x)) }

func spoilValue(v reflect.Value) {
	switch v.Kind() {
	case reflect.Slice:
		for i := range v.Len() {
			spoilValue(v.Index(i))
			if e := v.Index(i); e.CanInt() {
				e.SetInt(e.Int() ^ 77)
			} else if e.CanUint() {
				e.SetUint(e.Uint() ^ 77)
			} else {
				e.SetZero()
			}
		}
	case reflect.Struct:
		for i := range v.NumField() {
			spoilValue(v.Field(i))
		}
	}
}

// fullNotes are notes with all kinds of lists.
func fullNotes() []api.Note {
	l := story(1, 1, 1900, find(9), record(9), relead(1, 2), send(2, 9), find(17), set(1, 17, api.Setting{}), correct(1, 3, relead(4, 5)), setNew(2, 2), take(5))
	return append(l, story(2, 9, 1950, got(1, 4), breakUp(9, 10, 18))...)
}

// TestResultsOfSets checks that the results of sets are new memory, and their arguments stay as they are (R7).
func TestResultsOfSets(t *testing.T) {
	l := fullNotes()
	results := func() []any {
		merged, _ := benches.Merge(l[:9], l[5:])
		effective, _ := benches.Effective(l)
		register, _ := benches.Fold(l)
		early, _ := benches.AsOf(l, 1960, 20)
		stays, _ := benches.Stays(l, 9)
		found := benches.Found(register)
		return []any{merged, effective, register, early, stays, found}
	}
	want := results()
	for _, x := range results() {
		spoil(x)
		if !sameList(l, fullNotes()) {
			t.Fatal("a result shares memory with the set", x)
		}
	}
	if got := results(); !reflect.DeepEqual(got, want) {
		t.Error("results change", got, want)
	}
	register := want[2].(api.Register)
	kept := plain(register)
	spoil(benches.Found(register))
	if !sameValue(register, kept) {
		t.Error("Found shares memory with the register")
	}
}

// TestResultsAsBytes checks that bytes that are read or written are new memory.
func TestResultsAsBytes(t *testing.T) {
	for _, n := range fullNotes() {
		kept := plain(n)
		b, _ := benches.Encode(n)
		back, _ := benches.Decode(b)
		spoil(b)
		if !sameValue(n, kept) || !sameValue(back, kept) {
			t.Error("Encode or Decode shares memory", n)
		}
		b, _ = benches.Encode(n)
		f, _ := benches.Frame(b)
		spoil(f)
		if !bytes.Equal(b, wantBytes(n)) {
			t.Error("Frame shares memory", n)
		}
		f, _ = benches.Frame(b)
		l, _ := benches.Scan(f)
		spoil(f)
		if !bytes.Equal(l[0], b) {
			t.Error("Scan shares memory", n)
		}
	}
}

// TestBenchMemory checks that a bench is changed only by its own methods.
func TestBenchMemory(t *testing.T) {
	b := newBench(t, 1)
	want := fullNotes()
	for _, n := range fullNotes()[:8] {
		out, _ := b.Do(n)
		spoil(n)
		spoil(out)
	}
	heard := fullNotes()
	hear(t, b, heard[9:]...)
	spoil(heard)
	known := b.Notes()
	if !sameList(known, append(want[:8], want[9:]...)) {
		t.Error("notes change", known)
	}
	kept := plain(known)
	spoil(known)
	spoil(b.Missing(nil))
	spoil(b.Counts())
	if !sameList(b.Notes(), kept) || !reflect.DeepEqual(b.Counts(), []int{8, 2, 0, 0, 0, 0, 0, 0}) {
		t.Error("a bench changes", b.Notes())
	}
}

// TestWorldMemory checks that a world is changed only by its own methods.
func TestWorldMemory(t *testing.T) {
	w := newWorld(t, 2)
	step := stepper(t, w)
	for _, n := range fullNotes()[:6] {
		x := doing(1, n)
		step(api.OK, x)
		spoil(x)
	}
	step(api.OK, asking(2, 1), mailing(api.EventDouble, 0), mailing(api.EventDeliver, 1), mailing(api.EventDouble, 1))
	notes, mails, trays := notesOf(t, w, 1), w.Mails(), w.Trays()
	kept := []any{plain(notes), plain(mails), plain(trays)}
	spoil(notes)
	spoil(mails)
	spoil(trays)
	if got := []any{notesOf(t, w, 1), w.Mails(), w.Trays()}; !reflect.DeepEqual([]any{plain(got[0].([]api.Note)), plain(got[1].([]api.Mail)), plain(got[2].([]api.Tray))}, kept) {
		t.Error("a world changes", got, kept)
	}
	// of two copies of a message one can change alone
	one, two := w.Mails()[1], w.Mails()[2]
	spoil(one)
	if bytes.Equal(one.Body, two.Body) {
		t.Error("messages share memory")
	}
	l := w.Mails()
	spoil(l[1].Body)
	if bytes.Equal(l[1].Body, l[2].Body) {
		t.Error("messages of one result share memory")
	}
	step(api.OK, mailing(api.EventArrive, 0))
	if !sameList(notesOf(t, w, 2), kept[0].([]api.Note)[:4]) {
		t.Error("what a tray carries", notesOf(t, w, 2))
	}
}

package benches_test

import (
	"math"
	"math/rand"
	"reflect"
	"slices"
	"testing"

	"leadlight/api"
	"leadlight/benches"
)

// newWorld is NewWorld without an error.
func newWorld(t *testing.T, n int) *benches.World {
	t.Helper()
	w, e := benches.NewWorld(n)
	if e != api.OK {
		t.Fatal("NewWorld", n, e)
	}
	return w
}

// notesOf is Notes of a bench that there is.
func notesOf(t *testing.T, w *benches.World, bench int) []api.Note {
	t.Helper()
	l, e := w.Notes(bench)
	if e != api.OK {
		t.Fatal("Notes", bench, e)
	}
	return l
}

// letter is a message: it asks with counts, or brings notes.
type letter struct {
	from, to int
	ask      bool
	counts   []int
	notes    []api.Note
}

// body is the bytes of a message.
func (m letter) body() []byte {
	if m.ask {
		return append([]byte{1}, bytesOf(reflect.ValueOf(m.counts))...)
	}
	out := append([]byte{2}, bytesOf(reflect.ValueOf(len(m.notes)))...)
	for _, n := range m.notes {
		b := wantBytes(n)
		out = append(append(out, bytesOf(reflect.ValueOf(len(b)))...), b...)
	}
	return out
}

// cart is a tray, with the notes that it carries.
type cart struct {
	api.Tray
	notes []api.Note
}

// land is what a world must be.
type land struct {
	shops   []*shop
	letters []letter
	carts   []cart
}

func newLand(n int) *land {
	l := &land{}
	for id := 1; id <= n; id++ {
		l.shops = append(l.shops, &shop{id: id})
	}
	return l
}

func (l *land) has(bench int) bool { return bench >= 1 && bench <= len(l.shops) }

// step is the table of events.
func (l *land) step(e api.Event) api.Errno {
	names := slices.Contains([]int{api.EventDo, api.EventSync, api.EventAsk, api.EventCrash}, e.Kind)
	mails := slices.Contains([]int{api.EventDeliver, api.EventLose, api.EventDouble}, e.Kind)
	switch {
	case e.Kind < 1 || e.Kind > 8 || names && !l.has(e.Bench) || e.Kind == api.EventAsk && !l.has(e.To):
		return api.ErrArg
	case mails && (e.Index < 0 || e.Index >= len(l.letters)), e.Kind == api.EventArrive && (e.Index < 0 || e.Index >= len(l.carts)):
		return api.ErrNone
	}
	switch e.Kind {
	case api.EventDo:
		return l.do(e)
	case api.EventSync:
		l.shops[e.Bench-1].sync()
	case api.EventAsk:
		if e.Bench == e.To {
			return api.ErrArg
		}
		return l.post(letter{from: e.Bench, to: e.To, ask: true, counts: l.shops[e.Bench-1].counts()})
	case api.EventDeliver:
		return l.deliver(e.Index)
	case api.EventLose:
		l.letters = slices.Concat(l.letters[:e.Index], l.letters[e.Index+1:])
	case api.EventDouble:
		return l.post(l.letters[e.Index])
	case api.EventArrive:
		return l.arrive(&l.carts[e.Index])
	case api.EventCrash:
		return l.shops[e.Bench-1].crash(e.Keep, e.Flip)
	}
	return api.OK
}

func (l *land) post(m letter) api.Errno {
	if len(l.letters) == 200 {
		return api.ErrLimit
	}
	l.letters = append(l.letters, m)
	return api.OK
}

func (l *land) do(e api.Event) api.Errno {
	s := l.shops[e.Bench-1]
	here := func(c cart) bool { return c.Arrived && c.Ref == e.Note.Ref && c.To == e.Bench }
	switch {
	case e.Note.Kind == api.NoteSend && len(l.carts) == 200:
		return api.ErrLimit
	case e.Note.Kind == api.NoteGot && !slices.ContainsFunc(l.carts, here):
		return api.ErrPlace
	}
	n, err := s.do(e.Note)
	if err != api.OK {
		return err
	}
	switch n.Kind {
	case api.NoteRecord, api.NoteRelead, api.NoteCorrect, api.NoteWithdraw:
	default:
		s.sync()
	}
	if n.Kind == api.NoteSend {
		l.carts = append(l.carts, cart{api.Tray{Ref: refOf(n), To: n.To}, s.knows()})
	}
	return api.OK
}

func (l *land) deliver(index int) api.Errno {
	m := l.letters[index]
	to := l.shops[m.to-1]
	if !m.ask {
		if _, e := to.hear(m.notes); e != api.OK {
			return e
		}
	}
	l.letters = slices.Concat(l.letters[:index], l.letters[index+1:])
	if !m.ask {
		return api.OK
	}
	to.sync()
	var gift []api.Note
	for _, n := range to.knows() {
		if n.Num > m.counts[n.Bench-1] && len(gift) < 16 {
			gift = append(gift, n)
		}
	}
	if len(gift) > 0 {
		l.letters = append(l.letters, letter{from: m.to, to: m.from, notes: gift})
	}
	return api.OK
}

func (l *land) arrive(c *cart) api.Errno {
	switch {
	case !l.has(c.To):
		return api.ErrArg
	case c.Arrived:
		return api.ErrPlace
	}
	if _, e := l.shops[c.To-1].hear(c.notes); e != api.OK {
		return e
	}
	c.Arrived = true
	return api.OK
}

// union returns all notes that any bench knows.
func (l *land) union() []api.Note {
	all := &shop{}
	for _, s := range l.shops {
		all.hear(s.knows())
	}
	return all.knows()
}

func (l *land) settle() api.Errno {
	sum := map[api.Ref]bool{}
	for _, s := range l.shops {
		for _, n := range s.notes {
			sum[refOf(n)] = true
		}
	}
	if len(sum) > 400 {
		return api.ErrLimit
	}
	all := l.union()
	for _, s := range l.shops {
		s.hear(all)
		s.sync()
	}
	return api.OK
}

// check checks what a world tells of itself.
func (l *land) check(t *testing.T, w *benches.World) {
	t.Helper()
	for _, s := range l.shops {
		if got := notesOf(t, w, s.id); !sameList(got, s.knows()) {
			t.Fatal("Notes of bench", s.id, got, s.knows())
		}
	}
	var mails []api.Mail
	for _, m := range l.letters {
		mails = append(mails, api.Mail{From: m.from, To: m.to, Body: m.body()})
	}
	if got := w.Mails(); !sameList(got, mails) {
		t.Fatal("Mails", got, mails)
	}
	var trays []api.Tray
	for _, c := range l.carts {
		trays = append(trays, c.Tray)
	}
	if got := w.Trays(); !sameList(got, trays) {
		t.Fatal("Trays", got, trays)
	}
}

// moment throws an event of a land. If it is calm, no note is a correction or a withdrawal, and none has a smaller year than a note that its bench ever knew.
func (d thrower) moment(l *land, calm bool) api.Event {
	bench := 1 + d.Intn(len(l.shops))
	kind := []int{1, 1, 1, 1, 1, 1, 1, 2, 3, 3, 3, 4, 4, 4, 5, 6, 7, 7, 8}[d.Intn(19)]
	e := api.Event{Kind: kind, Bench: bench, To: 1 + d.Intn(len(l.shops)), Index: d.Intn(max(1, len(l.letters)))}
	s := l.shops[bench-1]
	switch e.Kind {
	case api.EventDo:
		e.Note = d.doable(s, calm)
		e.Note.Year = d.Intn(12)
		if calm {
			e.Note.Year = s.year + max(0, d.Intn(4)-1)
		}
	case api.EventArrive:
		e.Index = d.Intn(max(1, len(l.carts)))
	case api.EventCrash:
		pending := s.size() - s.durable
		e.Keep, e.Flip = d.Intn(pending+1), -1
		if e.Keep > 0 && d.Intn(2) == 0 {
			e.Flip = d.Intn(8 * e.Keep)
		}
	}
	if d.Intn(20) == 0 {
		*[]*int{&e.Kind, &e.Bench, &e.To, &e.Index, &e.Keep, &e.Flip}[d.Intn(6)] += []int{-9, 9}[d.Intn(2)]
	}
	return e
}

// doable throws a note for a bench, and is likely to choose one that it can write.
func (d thrower) doable(s *shop, calm bool) api.Note {
	var n api.Note
	for range 6 {
		kind := d.kind()
		if calm {
			kind = min(kind, api.NoteBreak)
		}
		n = d.note(s.id, kind, s.notes)
		again := *s
		if _, e := again.do(as(n, 0, 0, 0, 11)); e == api.OK || d.Intn(9) == 0 {
			break
		}
	}
	return n
}

// live lets events happen in a world and in a land, and checks that they are the same.
func live(t *testing.T, d thrower, n, events int, calm bool, after func(w *benches.World, l *land)) map[[2]int]int {
	t.Helper()
	w, l := newWorld(t, n), newLand(n)
	count := map[[2]int]int{}
	for range events {
		if d.Intn(40) == 0 {
			if e, f := w.Settle(), l.settle(); e != f {
				t.Fatal("Settle", e, f)
			}
		} else {
			x := d.moment(l, calm)
			e, f := w.Step(x), l.step(x)
			if e != f {
				t.Fatal("Step", x, e, f)
			}
			count[[2]int{x.Kind, int(e)}]++
		}
		l.check(t, w)
		after(w, l)
	}
	return count
}

// TestWorld checks a world against the table of events, and P9.7: each bench knows first parts of what was done, in the form in which it was done.
func TestWorld(t *testing.T) {
	d := thrower{rand.New(rand.NewSource(12))}
	count := map[[2]int]int{}
	for round := range 120 {
		written := map[string]bool{} // the notes that benches wrote
		ever := func(w *benches.World, l *land) {
			for _, s := range l.shops {
				if k := s.counts()[s.id-1]; k > 0 {
					last := slices.IndexFunc(s.notes, func(n api.Note) bool { return refOf(n) == ref(s.id, k) })
					written[nameOf(s.notes[last])] = true
				}
			}
			checkKnown(t, w, len(l.shops), written)
		}
		for k, n := range live(t, d, 1+round%4, 100, false, ever) {
			count[k] += n
		}
	}
	for kind := api.EventDo; kind <= api.EventCrash; kind++ {
		if count[[2]int{kind, int(api.OK)}] < 50 {
			t.Error("few events of the kind", kind, count)
		}
	}
	if count[[2]int{api.EventDo, int(api.ErrPlace)}] < 100 || count[[2]int{api.EventArrive, int(api.ErrPlace)}] < 100 || count[[2]int{api.EventArrive, int(api.ErrArg)}] < 5 {
		t.Error("few errors", count)
	}
}

// nameOf returns all that a note says as a key.
func nameOf(n api.Note) string {
	b, _ := benches.Encode(n)
	return string(b)
}

// checkKnown checks that n benches know first parts of the notes that were written, and no two of one number.
func checkKnown(t *testing.T, w *benches.World, n int, written map[string]bool) {
	t.Helper()
	known := map[api.Ref]string{}
	for bench := 1; bench <= n; bench++ {
		nums := map[int]int{}
		for _, n := range notesOf(t, w, bench) {
			nums[n.Bench]++
			if n.Num != nums[n.Bench] {
				t.Fatal("no first part", n)
			}
			if !written[nameOf(n)] {
				t.Fatal("invented", n)
			}
			if other := known[refOf(n)]; other != "" && other != nameOf(n) {
				t.Fatal("two notes of one number", n)
			}
			known[refOf(n)] = nameOf(n)
		}
	}
}

// TestCustody checks P9.6: where nothing is taken back, and years do not fall, nothing that happens leads to a conflict.
func TestCustody(t *testing.T) {
	d := thrower{rand.New(rand.NewSource(13))}
	effects, conflicts := map[int]int{}, map[int]int{}
	for round := range 40 {
		var last []api.Note
		live(t, d, 2+round%3, 120, true, func(w *benches.World, l *land) {
			last = l.union()
			if r := fold(t, last); len(r.Conflicts) > 0 {
				t.Fatal("conflicts", r.Conflicts, last)
			}
		})
		kinds(last, effects, conflicts)
	}
	for kind := api.NoteFind; kind <= api.NoteBreak; kind++ {
		if effects[kind] < 10 {
			t.Error("few notes of the kind", kind, effects)
		}
	}
}

// TestOneRegister checks P9.2 and P0.8: after settling all benches know the union of what they knew, and this amounts to one register with each piece in one place.
func TestOneRegister(t *testing.T) {
	d := thrower{rand.New(rand.NewSource(14))}
	for round := range 60 {
		n := 1 + round%5
		w, l := newWorld(t, n), newLand(n)
		for range 150 {
			x := d.moment(l, false)
			w.Step(x)
			l.step(x)
		}
		var union []api.Note
		for bench := 1; bench <= n; bench++ {
			var e api.Errno
			if union, e = benches.Merge(union, notesOf(t, w, bench)); e != api.OK {
				t.Fatal("Merge", e)
			}
		}
		mails, trays := w.Mails(), w.Trays()
		if e := w.Settle(); e != api.OK {
			t.Fatal("Settle", e)
		}
		for bench := 1; bench <= n; bench++ {
			l := notesOf(t, w, bench)
			if !sameList(l, union) {
				t.Error("after settling bench", bench, "knows", l, union)
			}
			r := fold(t, l)
			checkPlaces(t, l, r)
			// what was settled is durable
			if e := w.Step(api.Event{Kind: api.EventCrash, Bench: bench, Flip: -1}); e != api.OK || !sameList(notesOf(t, w, bench), union) {
				t.Error("after a crash", bench, e)
			}
			if e := w.Step(api.Event{Kind: api.EventCrash, Bench: bench, Keep: 1, Flip: -1}); e != api.ErrArg {
				t.Error("something is pending", bench, e)
			}
		}
		if !sameList(w.Mails(), mails) || !sameList(w.Trays(), trays) {
			t.Error("messages and trays do not stay")
		}
	}
}

// stepper returns a function that lets events happen and checks their errors.
func stepper(t *testing.T, w *benches.World) func(want api.Errno, l ...api.Event) {
	return func(want api.Errno, l ...api.Event) {
		t.Helper()
		for _, x := range l {
			if e := w.Step(x); e != want {
				t.Error("Step", x, e, "want", want)
			}
		}
	}
}

func doing(bench int, n api.Note) api.Event {
	return api.Event{Kind: api.EventDo, Bench: bench, Note: n}
}

func mailing(kind, index int) api.Event { return api.Event{Kind: kind, Index: index} }

func asking(from, to int) api.Event { return api.Event{Kind: api.EventAsk, Bench: from, To: to} }

// TestEvents has the errors of events, and which of them come first.
func TestEvents(t *testing.T) {
	w := newWorld(t, 2)
	step := stepper(t, w)
	step(api.ErrArg, api.Event{}, api.Event{Kind: 9, Bench: 1, To: 2}, api.Event{Kind: -1}, api.Event{Kind: math.MaxInt})
	for _, bench := range []int{math.MinInt, -1, 0, 3, math.MaxInt} {
		step(api.ErrArg, doing(bench, find(9)), doing(bench, got(1, 1)), doing(bench, send(9)), doing(bench, take(0)))
		step(api.ErrArg, api.Event{Kind: api.EventSync, Bench: bench}, asking(bench, 1), asking(1, bench), asking(bench, bench), api.Event{Kind: api.EventCrash, Bench: bench, Flip: -1})
		if l, e := w.Notes(bench); l != nil || e != api.ErrNone {
			t.Error("Notes", bench, e)
		}
	}
	step(api.ErrArg, asking(1, 1), asking(2, 2))
	for _, index := range []int{math.MinInt, -1, 0, 1, math.MaxInt} {
		step(api.ErrNone, mailing(api.EventDeliver, index), mailing(api.EventLose, index), mailing(api.EventDouble, index), mailing(api.EventArrive, index))
	}
	step(api.OK, doing(1, find(9)), doing(1, send(8, 9)), doing(1, find(17)), doing(1, send(2, 17)))
	step(api.ErrArg, mailing(api.EventArrive, 0), mailing(api.EventArrive, 0)) // it arrives nowhere
	unpacking := got(1, 4)
	unpacking.Pane = 1
	step(api.ErrPlace, doing(2, got(1, 2)), doing(2, got(1, 4)), doing(2, got(0, 0)), doing(2, unpacking), doing(1, got(1, 4))) // ahead of ErrNote
	step(api.OK, mailing(api.EventArrive, 1))
	step(api.ErrPlace, mailing(api.EventArrive, 1), doing(1, got(1, 4)))
	step(api.ErrNote, doing(2, unpacking), doing(1, take(0)))
	step(api.OK, doing(2, got(1, 4)))
	step(api.ErrPlace, doing(2, got(1, 4)), doing(1, set(1, 17, api.Setting{})))
	if l := w.Trays(); !sameList(l, []api.Tray{{Ref: ref(1, 2), To: 8}, {Ref: ref(1, 4), To: 2, Arrived: true}}) {
		t.Error("Trays", l)
	}
	// a correction to a NoteSend sends nothing
	step(api.OK, doing(1, correct(1, 2, send(2, 9))))
	if l := w.Trays(); len(l) != 2 {
		t.Error("Trays", l)
	}
}

// TestSynced checks which notes are durable as soon as they are written.
func TestSynced(t *testing.T) {
	piece := api.Setting{Shift: 1}
	for _, x := range []struct {
		n      api.Note
		synced bool
	}{
		{find(17), true}, {record(9), false}, {relead(1), false}, {send(2, 9), true}, {set(2, 9, piece), true}, {setNew(2, 1), true},
		{take(1), true}, {breakUp(9, 17), true}, {correct(1, 1, find(17)), false}, {withdraw(1, 2), false}, {got(2, 2), true},
	} {
		w := newWorld(t, 2)
		step := stepper(t, w)
		step(api.OK, doing(1, find(9)), doing(1, setNew(1, 1)), doing(2, find(10)), doing(2, send(1, 10)), mailing(api.EventArrive, 0))
		step(api.OK, doing(1, relead(5)), doing(1, x.n), api.Event{Kind: api.EventCrash, Bench: 1, Flip: -1})
		if l := notesOf(t, w, 1); len(l) != 6 && x.synced || len(l) != 2 && !x.synced {
			t.Error("after a crash behind", x.n, "are known", l)
		}
	}
}

// TestMail checks what messages bring: notes in bundles, also twice, late and not at all.
func TestMail(t *testing.T) {
	w := newWorld(t, 3)
	step := stepper(t, w)
	for range 20 {
		step(api.OK, doing(2, relead(1)))
	}
	step(api.OK, asking(1, 2), asking(3, 1), asking(1, 2), mailing(api.EventDouble, 0), mailing(api.EventDeliver, 1))
	if l := w.Mails(); len(l) != 3 { // bench 1 has nothing for bench 3
		t.Error("Mails", l)
	}
	step(api.OK, mailing(api.EventDeliver, 1), mailing(api.EventLose, 0), mailing(api.EventDeliver, 0))
	l := w.Mails()
	if len(l) != 2 || l[0].From != 2 || l[0].To != 1 || l[0].Body[0] != 2 || l[0].Body[1] != 32 {
		t.Error("Mails", l)
	}
	// who answers has synced
	step(api.OK, api.Event{Kind: api.EventCrash, Bench: 2, Flip: -1})
	if n := len(notesOf(t, w, 2)); n != 20 {
		t.Error("bench 2 knows after a crash", n)
	}
	step(api.OK, mailing(api.EventDeliver, 1))
	if n := len(notesOf(t, w, 1)); n != 16 {
		t.Error("bench 1 knows", n)
	}
	step(api.OK, mailing(api.EventDeliver, 0), asking(1, 2), mailing(api.EventDeliver, 0), mailing(api.EventDouble, 0), mailing(api.EventDeliver, 1))
	if n := len(notesOf(t, w, 1)); n != 20 {
		t.Error("bench 1 knows", n)
	}
	// who hears has not
	step(api.OK, api.Event{Kind: api.EventCrash, Bench: 1, Flip: -1})
	if n := len(notesOf(t, w, 1)); n != 0 {
		t.Error("bench 1 knows after a crash", n)
	}
	// the last four without the first sixteen
	step(api.OK, mailing(api.EventDeliver, 0))
	if l := w.Mails(); len(l) != 0 || len(notesOf(t, w, 1)) != 0 {
		t.Error("bench 1 knows notes with a gap ahead of them", l)
	}
}

// TestFullWorld checks the limits of messages, trays and notes.
func TestFullWorld(t *testing.T) {
	w := newWorld(t, 3)
	step := stepper(t, w)
	for range 100 {
		step(api.OK, asking(1, 2), asking(2, 1))
	}
	step(api.ErrLimit, asking(1, 2), mailing(api.EventDouble, 0))
	step(api.ErrNone, mailing(api.EventDouble, 200))
	step(api.ErrArg, asking(1, 1), asking(1, 4))
	for k := range 100 {
		for bench := 1; bench <= 2; bench++ {
			step(api.OK, doing(bench, find(bench+8*k)), doing(bench, send(3, bench+8*k)))
		}
	}
	step(api.ErrLimit, doing(3, send(1, 3)), doing(3, send(0)), doing(1, send(2, 9)))
	step(api.ErrArg, doing(4, send(1, 3)))
	step(api.OK, doing(3, find(3)))
	// the answer to an ask finds room, as the ask is gone
	step(api.OK, mailing(api.EventDeliver, 0))
	if l := w.Mails(); len(l) != 200 || l[199].From != 2 || l[199].Body[0] != 2 {
		t.Error("Mails", len(l))
	}
	before := w.Trays()
	if e := w.Settle(); e != api.ErrLimit || len(notesOf(t, w, 1)) != 200 || len(notesOf(t, w, 3)) != 1 || !sameList(w.Trays(), before) {
		t.Error("Settle of 401 notes", e)
	}
	// bench 1 can hear of 200 notes of bench 2; it asks 13 times
	for range 13 {
		for range 200 {
			if len(w.Mails()) > 0 {
				step(api.OK, mailing(api.EventLose, 0))
			}
		}
		step(api.OK, asking(1, 2), mailing(api.EventDeliver, 0), mailing(api.EventDeliver, 0))
	}
	step(api.OK, asking(1, 3), mailing(api.EventDeliver, 0))
	if n := len(notesOf(t, w, 1)); n != 400 {
		t.Error("bench 1 knows", n)
	}
	step(api.ErrLimit, mailing(api.EventDeliver, 0))
	if l := w.Mails(); len(l) != 1 || len(notesOf(t, w, 1)) != 400 {
		t.Error("a message that cannot be heard does not stay", l)
	}
	step(api.ErrLimit, doing(1, relead(1)))
}

// TestFullBench checks a tray whose notes a bench cannot hear.
func TestFullBench(t *testing.T) {
	w := newWorld(t, 2)
	step := stepper(t, w)
	for range 399 {
		step(api.OK, doing(2, relead(1)))
	}
	step(api.OK, doing(1, find(9)), doing(1, send(2, 9)))
	step(api.ErrLimit, mailing(api.EventArrive, 0), mailing(api.EventArrive, 0))
	if l := w.Trays(); len(l) != 1 || l[0].Arrived || len(notesOf(t, w, 2)) != 399 {
		t.Error("a tray that cannot arrive has arrived", l)
	}
	if e := w.Settle(); e != api.ErrLimit {
		t.Error("Settle", e)
	}
}

// TestNewWorld checks which worlds there are, and what those do that NewWorld did not make.
func TestNewWorld(t *testing.T) {
	for _, n := range []int{math.MinInt, -1, 0, 9, math.MaxInt} {
		if w, e := benches.NewWorld(n); w != nil || e != api.ErrArg {
			t.Error("NewWorld", n, e)
		}
	}
	w := newWorld(t, 8)
	for bench := 1; bench <= 8; bench++ {
		if l := notesOf(t, w, bench); l != nil {
			t.Error("Notes", l)
		}
	}
	if w.Mails() != nil || w.Trays() != nil || w.Settle() != api.OK {
		t.Error("a new world")
	}
	for _, w := range []*benches.World{nil, new(benches.World)} {
		for kind := -1; kind <= 9; kind++ {
			if e := w.Step(api.Event{Kind: kind, Bench: 1, To: 2, Flip: -1}); e != api.ErrArg {
				t.Error("Step", kind, e)
			}
		}
		if l, e := w.Notes(1); l != nil || e != api.ErrArg || w.Mails() != nil || w.Trays() != nil || w.Settle() != api.ErrArg {
			t.Error("a world that was not made does something")
		}
	}
}

package benches_test

import (
	"math"
	"math/rand"
	"slices"
	"testing"

	"leadlight/api"
	"leadlight/benches"
)

// newBench is NewBench without an error.
func newBench(t *testing.T, id int) *benches.Bench {
	t.Helper()
	b, e := benches.NewBench(id)
	if e != api.OK {
		t.Fatal("NewBench", id, e)
	}
	return b
}

// do is Do without an error.
func do(t *testing.T, b *benches.Bench, l ...api.Note) {
	t.Helper()
	for _, n := range l {
		if _, e := b.Do(n); e != api.OK {
			t.Fatal("Do", n, e)
		}
	}
}

// hear is Hear without an error.
func hear(t *testing.T, b *benches.Bench, l ...api.Note) {
	t.Helper()
	if k, e := b.Hear(l); e != api.OK || k != len(l) {
		t.Fatal("Hear", len(l), k, e)
	}
}

// TestBenchExample has the chapter's first example, as the benches write it.
func TestBenchExample(t *testing.T) {
	one, two := newBench(t, 1), newBench(t, 2)
	do(t, one, as(find(9), 0, 0, 0, 1900), as(send(2, 9), 0, 0, 0, 1901))
	hear(t, two, one.Notes()...)
	do(t, two, as(got(1, 2), 0, 0, 0, 1901))
	hear(t, one, two.Missing(one.Counts())...)
	if l := one.Notes(); !sameList(l, exampleNotes()) {
		t.Error("what was written", l)
	}
	do(t, one, as(withdraw(1, 2), 0, 0, 0, 1902)) // though it makes a conflict of another note
	if r := fold(t, one.Notes()); !sameList(r.Where, []api.Where{at(9, 1)}) || !sameList(r.Conflicts, []api.Ref{ref(2, 1)}) {
		t.Error("withdrawn", r)
	}
}

// shop is what a bench must be: the notes that it knows, in the order in which it came to know them, how many bytes of its journal are durable, and the greatest year of the notes that it ever knew.
type shop struct {
	id      int
	notes   []api.Note
	durable int
	year    int
}

// add adds a note.
func (s *shop) add(n api.Note) {
	s.notes = append(s.notes, n)
	s.year = max(s.year, n.Year)
}

// size returns the bytes of the journal.
func (s *shop) size() int {
	n := 0
	for _, x := range s.notes {
		n += len(wantBytes(x)) + 6
	}
	return n
}

func (s *shop) sync() { s.durable = s.size() }

// knows returns the set of the notes.
func (s *shop) knows() []api.Note { return sorted(s.notes, byName) }

// counts returns how many notes of each bench are known.
func (s *shop) counts() []int {
	out := make([]int, 8)
	for _, n := range s.notes {
		out[n.Bench-1]++
	}
	return out
}

// do is the rule of Do.
func (s *shop) do(n api.Note) (api.Note, api.Errno) {
	n.Bench, n.Num, n.Clock = s.id, s.counts()[s.id-1]+1, 1
	for _, x := range s.notes {
		n.Clock = max(n.Clock, x.Clock+1)
	}
	switch {
	case len(s.notes) == 400 || n.Clock > 1<<20:
		return api.Note{}, api.ErrLimit
	case benches.CheckNote(n) != api.OK:
		return api.Note{}, api.ErrNote
	case slices.Contains(wantFold(append(s.knows(), n)).Conflicts, refOf(n)):
		return api.Note{}, api.ErrPlace
	}
	s.add(n)
	return n, api.OK
}

// hear is the rule of Hear.
func (s *shop) hear(l []api.Note) (int, api.Errno) {
	if slices.ContainsFunc(l, func(n api.Note) bool { return benches.CheckNote(n) != api.OK }) {
		return 0, api.ErrNote
	}
	after := shop{notes: slices.Clone(s.notes)}
	for _, n := range l {
		k := slices.IndexFunc(after.notes, func(x api.Note) bool { return refOf(x) == refOf(n) })
		switch {
		case k >= 0 && sameValue(after.notes[k], n), k < 0 && n.Num > after.counts()[n.Bench-1]+1:
			continue
		case k >= 0:
			return 0, api.ErrFork
		case len(after.notes) == 400:
			return 0, api.ErrLimit
		}
		after.add(n)
	}
	added := len(after.notes) - len(s.notes)
	s.notes, s.year = after.notes, max(s.year, after.year)
	return added, api.OK
}

// crash is what P9.5 says of Crash: the notes stay whose frames have become durable as they were.
func (s *shop) crash(keep, flip int) api.Errno {
	if keep < 0 || keep > s.size()-s.durable || flip < -1 || flip >= 8*keep {
		return api.ErrArg
	}
	right := s.durable + keep
	if flip >= 0 {
		right = s.durable + flip/8
	}
	for s.size() > right {
		s.notes = s.notes[:len(s.notes)-1]
	}
	s.sync()
	return api.OK
}

// check checks what a bench tells of itself.
func (s *shop) check(t *testing.T, b *benches.Bench) {
	t.Helper()
	if l := b.Notes(); !sameList(l, s.knows()) || !isSet(l) {
		t.Fatal("Notes", l, s.notes)
	}
	if c := b.Counts(); !slices.Equal(c, s.counts()) {
		t.Fatal("Counts", c, s.counts())
	}
}

// heard throws notes of a list for a bench to hear: mostly those that it lacks, some twice, in another order, in another form, or not well-formed.
func (d thrower) heard(l []api.Note) []api.Note {
	out := slices.Clone(l)
	if len(out) == 0 {
		return nil
	}
	at := d.Intn(len(out))
	out = out[at : at+d.Intn(len(out)-at)]
	switch d.Intn(8) {
	case 0:
		d.Shuffle(len(out), func(i, j int) { out[i], out[j] = out[j], out[i] })
	case 1:
		out = append(out, out...)
	case 2:
		if len(out) > 0 {
			out[d.Intn(len(out))].Year += []int{1, 10000}[d.Intn(2)]
		}
	case 3:
		out = append(out, as(take(1), 8, 2, 1, 1), as(take(1), 7, 400, 1, 1))
	}
	return out
}

// TestBench checks a bench against its rules while it writes, hears, syncs and loses power, and with that P9.5.
func TestBench(t *testing.T) {
	d := thrower{rand.New(rand.NewSource(11))}
	count := map[api.Errno]int{}
	crashes := 0
	for round := range 60 {
		id := 1 + round%3
		b, s := newBench(t, id), &shop{id: id}
		others := thrown()[20+round]
		for range 60 {
			switch d.Intn(5) {
			case 0, 1:
				n := d.note(id, 1+d.Intn(10), s.notes)
				n.Year = d.Intn(12)
				if d.Intn(9) == 0 {
					n.Pane++
				}
				n.Bench, n.Num, n.Clock = d.Intn(99), d.Intn(99), d.Intn(99) // which do not matter
				got, e := b.Do(n)
				want, f := s.do(n)
				count[f]++
				if e != f || !sameValue(got, want) {
					t.Fatal("Do", n, got, e, want, f)
				}
			case 2:
				l := d.heard(others)
				k, e := b.Hear(l)
				want, f := s.hear(l)
				count[f]++
				if k != want || e != f {
					t.Fatal("Hear", l, k, e, want, f)
				}
			case 3:
				b.Sync()
				s.sync()
			case 4:
				pending := s.size() - s.durable
				keep := d.Intn(pending+4) - 1
				flip := []int{-1, d.Intn(8*max(0, keep)+3) - 2}[d.Intn(2)]
				e, f := b.Crash(keep, flip), s.crash(keep, flip)
				if e != f {
					t.Fatal("Crash", keep, flip, e, f)
				}
				if e == api.OK && pending > 0 {
					crashes++
				}
			}
			s.check(t, b)
		}
	}
	if crashes < 100 || count[api.OK] < 500 || count[api.ErrNote] < 20 || count[api.ErrPlace] < 100 || count[api.ErrFork] < 20 {
		t.Error("few kinds", crashes, count)
	}
}

// TestCrashes crashes a bench at every byte, and with every bit inverted.
func TestCrashes(t *testing.T) {
	synced := []api.Note{find(10), relead(1)}
	pending := []api.Note{send(1, 10), record(18), take(1)}
	other := as(take(1), 1, 1, 7, 1900)
	begin := func() (*benches.Bench, *shop) {
		b, s := newBench(t, 2), &shop{id: 2}
		do(t, b, synced...)
		b.Sync()
		hear(t, b, other)
		do(t, b, pending[:2]...)
		for k, n := range synced {
			s.notes = append(s.notes, as(n, 2, k+1, k+1, 0))
		}
		s.sync()
		s.notes = append(s.notes, other, as(pending[0], 2, 3, 8, 0), as(pending[1], 2, 4, 9, 0))
		return b, s
	}
	_, first := begin()
	size := first.size() - first.durable
	for keep := -1; keep <= size+1; keep++ {
		flips := []int{-2, -1, 8 * keep, 8*keep - 1}
		if keep == size {
			for flip := range 8 * size {
				flips = append(flips, flip)
			}
		}
		for _, flip := range flips {
			b, s := begin()
			if e, f := b.Crash(keep, flip), s.crash(keep, flip); e != f {
				t.Fatal("Crash", keep, flip, e, f)
			}
			s.check(t, b)
			// what it knows is durable then, and the rest of the disk is gone
			if keep > 0 && keep <= size && flip == -1 {
				if b.Crash(1, -1) != api.ErrArg || b.Crash(0, -1) != api.OK {
					t.Error("something is pending after a crash", keep)
				}
				s.check(t, b)
				do(t, b, relead(7))
				b.Sync()
				if b.Crash(0, -1) != api.OK || len(b.Notes()) != len(s.notes)+1 {
					t.Error("a note after a crash", keep)
				}
			}
		}
	}
}

// TestLimitsOfBench checks the limits of Do and Hear, and which errors come first.
func TestLimitsOfBench(t *testing.T) {
	b := newBench(t, 1)
	hear(t, b, many(2, 398)...)
	do(t, b, find(9), relead(1))
	if n, e := b.Do(take(65)); e != api.ErrLimit || !sameValue(n, api.Note{}) {
		t.Error("Do of a 401st note", n, e)
	}
	if k, e := b.Hear(append(many(2, 398), as(take(1), 3, 2, 1, 1))); k != 0 || e != api.OK {
		t.Error("Hear of known notes", k, e)
	}
	if k, e := b.Hear(append(many(2, 399), as(take(1), 3, 1, 1, 1))); k != 0 || e != api.ErrLimit {
		t.Error("Hear of a 401st note", k, e)
	}
	if k, e := b.Hear([]api.Note{as(take(1), 3, 1, 1, 1), as(take(2), 2, 1, 1, 1)}); k != 0 || e != api.ErrLimit {
		t.Error("Hear of a limit ahead of a fork", k, e)
	}
	if k, e := b.Hear([]api.Note{as(take(2), 2, 1, 1, 1), as(take(1), 3, 1, 1, 1)}); k != 0 || e != api.ErrFork {
		t.Error("Hear of a fork ahead of a limit", k, e)
	}
	if k, e := b.Hear([]api.Note{as(take(2), 2, 1, 1, 1), as(take(1), 0, 1, 1, 1)}); k != 0 || e != api.ErrNote {
		t.Error("Hear of what is no note, behind a fork", k, e)
	}
	if len(b.Notes()) != 400 {
		t.Error("errors change what a bench knows")
	}

	b = newBench(t, 1)
	hear(t, b, as(take(1), 2, 1, 1<<20-1, 1))
	if n, e := b.Do(relead(1)); e != api.OK || n.Clock != 1<<20 {
		t.Error("Do with the greatest clock", n, e)
	}
	for _, n := range []api.Note{relead(1), relead(0), take(1)} {
		if n, e := b.Do(n); e != api.ErrLimit || !sameValue(n, api.Note{}) {
			t.Error("Do with a greater clock", n, e)
		}
	}

	b = newBench(t, 1)
	if _, e := b.Do(take(0)); e != api.ErrNote {
		t.Error("Do of a note that is not well-formed", e)
	}
	for _, n := range []api.Note{take(1), send(2, 9), set(1, 9, api.Setting{}), got(2, 1), breakUp(1, 9), withdraw(1, 1), correct(1, 1, take(1))} {
		if _, e := b.Do(n); e != api.ErrPlace {
			t.Error("Do of a conflict", n, e)
		}
	}
	if len(b.Notes()) != 0 || b.Crash(1, -1) != api.ErrArg {
		t.Error("errors change what a bench knows, or its disk")
	}
}

// TestHearPart checks that Hear changes nothing with an error, though notes ahead of it are new.
func TestHearPart(t *testing.T) {
	b := newBench(t, 1)
	do(t, b, find(9))
	b.Sync()
	fork := append(many(2, 5), as(find(17), 1, 1, 1, 0))
	if k, e := b.Hear(fork); k != 0 || e != api.ErrFork || len(b.Notes()) != 1 || b.Crash(1, -1) != api.ErrArg {
		t.Error("Hear", k, e, b.Notes())
	}
	twice := append(many(2, 5), as(take(2), 2, 5, 1, 0)) // a fork of what is heard with it
	if k, e := b.Hear(twice); k != 0 || e != api.ErrFork || len(b.Notes()) != 1 {
		t.Error("Hear", k, e, b.Notes())
	}
	// the notes of another list can come in the place of those that were not added
	other := story(2, 5, 5, relead(1), relead(2), relead(3))
	if k, e := b.Hear(other); k != 3 || e != api.OK || !sameList(b.Notes()[1:], other) {
		t.Error("Hear", k, e, b.Notes())
	}
}

// TestMissing checks which notes somebody lacks, by any counts.
func TestMissing(t *testing.T) {
	b := newBench(t, 3)
	hear(t, b, slices.Concat(many(8, 3), many(1, 2), many(3, 4))...)
	for _, counts := range [][]int{
		nil, {}, {1}, {2, 0, 2}, {0, 9, 4, 0, 0, 0, 0, 2}, {-5, 0, math.MinInt, 0, 0, 0, 0, math.MaxInt, 3, 3}, b.Counts(), {9, 9, 9, 9, 9, 9, 9},
	} {
		var want []api.Note
		for _, n := range b.Notes() {
			known := 0
			if n.Bench <= len(counts) {
				known = counts[n.Bench-1]
			}
			if n.Num > known {
				want = append(want, n)
			}
		}
		if l := b.Missing(counts); !sameList(l, want) {
			t.Error("Missing", counts, l, want)
		}
	}
	if l := newBench(t, 1).Missing(nil); l != nil {
		t.Error("Missing of a bench that knows nothing", l)
	}
}

// TestNewBench checks which benches there are, and what those do that NewBench did not make.
func TestNewBench(t *testing.T) {
	for _, id := range []int{math.MinInt, -1, 0, 9, math.MaxInt} {
		if b, e := benches.NewBench(id); b != nil || e != api.ErrArg {
			t.Error("NewBench", id, e)
		}
	}
	for id := 1; id <= 8; id++ {
		b := newBench(t, id)
		if n, e := b.Do(as(find(id), 99, 99, 99, 1900)); e != api.OK || !sameValue(n, as(find(id), id, 1, 1, 1900)) {
			t.Error("Do", n, e)
		}
	}
	for _, b := range []*benches.Bench{nil, new(benches.Bench)} {
		b.Sync()
		if n, e := b.Do(take(0)); e != api.ErrArg || !sameValue(n, api.Note{}) {
			t.Error("Do", n, e)
		}
		if k, e := b.Hear([]api.Note{{}}); k != 0 || e != api.ErrArg {
			t.Error("Hear", k, e)
		}
		if b.Notes() != nil || b.Counts() != nil || b.Missing(nil) != nil || b.Crash(0, -1) != api.ErrArg {
			t.Error("a bench that was not made does something")
		}
	}
}

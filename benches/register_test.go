package benches_test

import (
	"math"
	"math/rand"
	"slices"
	"testing"

	"leadlight/api"
	"leadlight/benches"
)

// fold is Fold without an error.
func fold(t *testing.T, l []api.Note) api.Register {
	t.Helper()
	r, e := benches.Fold(l)
	if e != api.OK {
		t.Fatal("Fold", l, e)
	}
	return r
}

// asOf is AsOf without an error.
func asOf(t *testing.T, l []api.Note, year, clock int) api.Register {
	t.Helper()
	r, e := benches.AsOf(l, year, clock)
	if e != api.OK {
		t.Fatal("AsOf", l, year, clock, e)
	}
	return r
}

// TestFold checks Fold against its table.
func TestFold(t *testing.T) {
	effects, conflicts := map[int]int{}, map[int]int{}
	for _, l := range thrown() {
		if r := fold(t, l); !sameValue(r, wantFold(l)) {
			t.Error("Fold", l, r, wantFold(l))
		}
		kinds(l, effects, conflicts)
	}
	for kind := api.NoteFind; kind <= api.NoteBreak; kind++ {
		if effects[kind] < 100 || conflicts[kind] < 50 && kind != api.NoteRelead {
			t.Error("few of the kind", kind, effects[kind], conflicts[kind])
		}
	}
}

// TestAsOf checks AsOf against its rule.
func TestAsOf(t *testing.T) {
	d := rand.New(rand.NewSource(4))
	for _, l := range thrown() {
		for _, at := range [][2]int{{d.Intn(14) - 1, d.Intn(40)}, {late, d.Intn(40)}, {d.Intn(14), late}, {math.MaxInt, math.MaxInt}} {
			if r := asOf(t, l, at[0], at[1]); !sameValue(r, wantAsOf(l, at[0], at[1])) {
				t.Error("AsOf", l, at, r)
			}
		}
		for _, at := range [][2]int{{math.MinInt, math.MaxInt}, {late, 0}, {math.MaxInt, math.MinInt}, {-1, -1}} {
			r := asOf(t, l, at[0], at[1])
			if at[1] > 0 { // what goes astray does so in any year
				r.Conflicts = nil
			}
			if !sameValue(r, api.Register{}) {
				t.Error("AsOf", l, at, r)
			}
		}
	}
}

// TestNoSets checks that what is no set has no register.
func TestNoSets(t *testing.T) {
	for _, l := range noSets() {
		if r, e := benches.Fold(l); e != api.ErrArg || !sameValue(r, api.Register{}) {
			t.Error("Fold", l, r, e)
		}
		if r, e := benches.AsOf(l, late, 0); e != api.ErrArg || !sameValue(r, api.Register{}) {
			t.Error("AsOf", l, r, e)
		}
		if out, e := benches.Stays(l, 9); e != api.ErrArg || out != nil {
			t.Error("Stays", l, out, e)
		}
	}
	if r := fold(t, nil); !sameValue(r, api.Register{}) {
		t.Error("Fold of nothing", r)
	}
}

// at, tray, inPane and broken are where a piece is.
func at(piece, bench int) api.Where { return api.Where{Piece: piece, Kind: api.AtBench, At: bench} }

func tray(piece, bench, num int) api.Where {
	return api.Where{Piece: piece, Kind: api.InTray, Tray: ref(bench, num)}
}

func inPane(piece, pane int, s api.Setting) api.Where {
	return api.Where{Piece: piece, Kind: api.InPane, At: pane, Setting: s}
}

func broken(piece int) api.Where { return api.Where{Piece: piece, Kind: api.Broken} }

// exampleNotes are the notes of the chapter's first example: a piece is found, sent and unpacked.
func exampleNotes() []api.Note {
	return append(story(1, 1, 1900, find(9), send(2, 9)), as(got(1, 2), 2, 1, 3, 1901))
}

// TestExample has the chapter's first example.
func TestExample(t *testing.T) {
	l := exampleNotes()
	if r := fold(t, l[:2]); !sameList(r.Where, []api.Where{tray(9, 1, 2)}) || len(r.Conflicts) > 0 {
		t.Error("sent", r)
	}
	if r := fold(t, l); !sameList(r.Where, []api.Where{at(9, 2)}) || len(r.Conflicts) > 0 {
		t.Error("unpacked", r)
	}
	l = sorted(append(l, as(withdraw(1, 2), 1, 3, 4, 1902)), byName)
	if r := fold(t, l); !sameList(r.Where, []api.Where{at(9, 1)}) || !sameList(r.Conflicts, []api.Ref{ref(2, 1)}) {
		t.Error("withdrawn", r)
	}
}

// TestConditions has, for each kind, the cases that the table names: what does not meet its condition takes no effect at all.
func TestConditions(t *testing.T) {
	back := api.Setting{Shift: 3, Back: true}
	for name, x := range map[string]struct {
		l         []api.Note
		where     []api.Where
		glass     []api.Held
		conflicts []api.Ref
	}{
		"found twice":               {story(1, 1, 1, find(9), find(9)), []api.Where{at(9, 1)}, nil, []api.Ref{ref(1, 2)}},
		"sent to itself":            {story(1, 1, 1, find(9), send(1, 9)), []api.Where{at(9, 1)}, nil, []api.Ref{ref(1, 2)}},
		"sent with a foreign one":   {story(1, 1, 1, find(9), send(2, 9, 10)), []api.Where{at(9, 1)}, nil, []api.Ref{ref(1, 2)}},
		"sent twice":                {story(1, 1, 1, find(9), send(2, 9), send(3, 9)), []api.Where{tray(9, 1, 2)}, nil, []api.Ref{ref(1, 3)}},
		"sent to no bench":          {story(1, 1, 1, find(9), send(8, 9)), []api.Where{tray(9, 1, 2)}, nil, nil},
		"unpacked twice":            {append(story(1, 1, 1, find(9), send(2, 9)), story(2, 3, 3, got(1, 2), got(1, 2))...), []api.Where{at(9, 2)}, nil, []api.Ref{ref(2, 2)}},
		"unpacked by a third":       {append(story(1, 1, 1, find(9), send(2, 9)), story(3, 3, 3, got(1, 2))...), []api.Where{tray(9, 1, 2)}, nil, []api.Ref{ref(3, 1)}},
		"unpacked ahead":            {append(story(1, 1, 1, find(9), send(2, 9)), story(2, 1, 1, got(1, 2))...), []api.Where{tray(9, 1, 2)}, nil, []api.Ref{ref(2, 1)}},
		"unpacked a find":           {append(story(1, 1, 1, find(9)), story(2, 3, 3, got(1, 1))...), []api.Where{at(9, 1)}, nil, []api.Ref{ref(2, 1)}},
		"unpacked an empty tray":    {append(story(1, 1, 1, send(2, 9)), story(2, 3, 3, got(1, 1))...), nil, nil, []api.Ref{ref(1, 1), ref(2, 1)}},
		"unpacked all":              {append(story(1, 1, 1, find(9), find(17), find(25), send(2, 9, 25)), story(2, 9, 9, got(1, 4))...), []api.Where{at(9, 2), at(17, 1), at(25, 2)}, nil, nil},
		"set":                       {story(1, 1, 1, find(9), set(4, 9, back)), []api.Where{inPane(9, 4, back)}, nil, nil},
		"set at another bench":      {story(2, 1, 1, find(10), set(4, 10, back), setNew(4, 1)), []api.Where{at(10, 2)}, nil, []api.Ref{ref(2, 2), ref(2, 3)}},
		"set a foreign piece":       {append(story(1, 5, 5, set(4, 10, back)), story(2, 1, 1, find(10))...), []api.Where{at(10, 2)}, nil, []api.Ref{ref(1, 1)}},
		"set into a full pane":      {story(1, 1, 1, find(9), find(17), set(4, 9, back), set(4, 17, back), setNew(4, 1)), []api.Where{inPane(9, 4, back), at(17, 1)}, nil, []api.Ref{ref(1, 4), ref(1, 5)}},
		"set into new glass":        {story(1, 1, 1, find(9), setNew(4, 2), set(4, 9, back), setNew(4, 3)), []api.Where{at(9, 1)}, []api.Held{{Pane: 4, Colour: 2}}, []api.Ref{ref(1, 3), ref(1, 4)}},
		"set twice":                 {story(1, 1, 1, find(9), set(4, 9, back), set(5, 9, back)), []api.Where{inPane(9, 4, back)}, nil, []api.Ref{ref(1, 3)}},
		"set what is broken":        {story(1, 1, 1, find(9), breakUp(9, 17), set(5, 9, back)), []api.Where{broken(9), at(17, 1)}, nil, []api.Ref{ref(1, 3)}},
		"taken":                     {story(1, 1, 1, find(9), set(4, 9, back), setNew(5, 1), take(4), take(5), set(5, 9, back)), []api.Where{inPane(9, 5, back)}, nil, nil},
		"taken from an empty pane":  {story(1, 1, 1, take(4)), nil, nil, []api.Ref{ref(1, 1)}},
		"taken at another bench":    {append(story(1, 1, 1, setNew(4, 1)), story(2, 5, 5, take(4))...), nil, []api.Held{{Pane: 4, Colour: 1}}, []api.Ref{ref(2, 1)}},
		"broken":                    {story(2, 1, 1, find(10), breakUp(10, 2, 18)), []api.Where{at(2, 2), broken(10), at(18, 2)}, nil, nil},
		"broken twice":              {story(2, 1, 1, find(10), breakUp(10, 2), breakUp(10, 18)), []api.Where{at(2, 2), broken(10)}, nil, []api.Ref{ref(2, 3)}},
		"broken into itself":        {story(2, 1, 1, find(10), breakUp(10, 10)), []api.Where{at(10, 2)}, nil, []api.Ref{ref(2, 2)}},
		"broken into a known one":   {story(2, 1, 1, find(10), find(18), breakUp(10, 2, 18)), []api.Where{at(10, 2), at(18, 2)}, nil, []api.Ref{ref(2, 3)}},
		"broken elsewhere":          {append(story(1, 5, 5, breakUp(10, 9)), story(2, 1, 1, find(10))...), []api.Where{at(10, 2)}, nil, []api.Ref{ref(1, 1)}},
		"found after it was broken": {story(1, 1, 1, find(9), breakUp(9, 17), find(9)), []api.Where{broken(9), at(17, 1)}, nil, []api.Ref{ref(1, 3)}},
	} {
		r := fold(t, x.l)
		if !sameList(r.Where, x.where) || !sameList(r.New, x.glass) || !sameList(r.Conflicts, x.conflicts) {
			t.Error(name, r)
		}
	}
}

// TestRecords checks the items and the releadings of a register, and the conflicts that are none of Fold's table.
func TestRecords(t *testing.T) {
	other := record(9)
	other.Item.Kind = api.ItemFace
	l := story(1, 1, 1900, record(17), record(9), other, relead(1, 2), relead(1))
	l[4].Year = 1800
	l = append(l, story(2, 9, 1700, withdraw(1, 1), withdraw(1, 1), withdraw(3, 1), correct(3, 1, take(1)), withdraw(2, 1), correct(2, 4, take(2)))...)
	r := fold(t, l)
	if !sameList(r.Items, []api.Item{record(9).Item}) || !sameList(r.Releads, []api.Relead{{Year: 1800, Panes: []int{1}}, {Year: 1903, Panes: []int{1, 2}}}) {
		t.Error("items and releadings", r.Items, r.Releads)
	}
	if !sameList(r.Conflicts, []api.Ref{ref(1, 3), ref(2, 3), ref(2, 4), ref(2, 5), ref(2, 6)}) {
		t.Error("conflicts", r.Conflicts)
	}
	// what is astray is a conflict in any year, as far as it is known
	for clock, want := range map[int][]api.Ref{5: nil, 10: nil, 11: {ref(2, 3)}, 12: {ref(2, 3), ref(2, 4)}, 13: {ref(2, 3), ref(2, 4), ref(2, 5)}} {
		if r := asOf(t, l, 0, clock); !sameList(r.Conflicts, want) || len(r.Items) > 0 {
			t.Error("as of the clock", clock, r)
		}
	}
	late := []api.Note{as(take(1), 1, 1, 9, 1), as(withdraw(1, 1), 2, 1, 5, 1)}
	if r := asOf(t, late, 9999, 5); !sameList(r.Conflicts, []api.Ref{ref(2, 1)}) {
		t.Error("a withdrawal that is known ahead of its note", r.Conflicts)
	}
}

// registers throws registers, of which little is right.
func registers() []api.Register {
	d := rand.New(rand.NewSource(5))
	var out []api.Register
	for range 500 {
		var r api.Register
		for range d.Intn(8) {
			r.Where = append(r.Where, api.Where{Piece: d.Intn(5) - 1, Kind: 1 + d.Intn(4), At: d.Intn(5) - 1, Setting: api.Setting{Shift: d.Intn(5)}, Tray: ref(d.Intn(3), 1)})
		}
		for range d.Intn(5) {
			r.New = append(r.New, api.Held{Pane: d.Intn(5) - 1, Piece: d.Intn(2), Colour: d.Intn(3), Setting: api.Setting{Back: d.Intn(2) == 0}})
		}
		out = append(out, r)
	}
	return out
}

// wantHeld is the rule of Found for a pane.
func wantHeld(r api.Register, pane int) []api.Held {
	for _, w := range r.Where {
		if w.Kind == api.InPane && w.At == pane {
			return []api.Held{{Pane: pane, Piece: w.Piece, Setting: w.Setting}}
		}
	}
	for _, h := range r.New {
		if h.Pane == pane {
			return []api.Held{h}
		}
	}
	return nil
}

// TestFound checks WhereIs and Found of any registers.
func TestFound(t *testing.T) {
	for _, r := range registers() {
		for piece := -2; piece <= 5; piece++ {
			k := slices.IndexFunc(r.Where, func(w api.Where) bool { return w.Piece == piece })
			w, e := benches.WhereIs(r, piece)
			if k < 0 && (e != api.ErrNone || w != api.Where{}) || k >= 0 && (e != api.OK || w != r.Where[k]) {
				t.Error("WhereIs", r, piece, w, e)
			}
		}
		var want []api.Held
		for pane := -2; pane <= 5; pane++ {
			want = append(want, wantHeld(r, pane)...)
		}
		if l := benches.Found(r); !sameList(l, want) {
			t.Error("Found", r, l)
		}
	}
	if l := benches.Found(api.Register{}); l != nil {
		t.Error("Found of nothing", l)
	}
}

// wantStays is the rule of Stays.
func wantStays(l []api.Note, piece int) []api.Stay {
	var out []api.Stay
	var g log
	before := api.Where{}
	for _, n := range wantEffective(l) {
		g.take(n)
		if w := g.of(piece); w != nil && *w != before {
			out = append(out, api.Stay{Year: n.Year, Ref: refOf(n), Where: *w})
			before = *w
		}
	}
	return out
}

// TestStays checks Stays against its rule.
func TestStays(t *testing.T) {
	long := 0
	for _, l := range thrown() {
		for _, piece := range []int{-1, 0, 1, 2, 3, 9, 10, 11, 17, 18, 19, 25, 26, 27, 65536} {
			want, err := wantStays(l, piece), api.OK
			if want == nil {
				err = api.ErrNone
			}
			if len(want) > 2 {
				long++
			}
			if out, e := benches.Stays(l, piece); e != err || !sameList(out, want) {
				t.Error("Stays", l, piece, out, e)
			}
		}
	}
	if long < 100 {
		t.Error("few long stays", long)
	}
	l := append(exampleNotes(), as(breakUp(9, 2), 2, 2, 4, 1903))
	want := []api.Stay{{Year: 1900, Ref: ref(1, 1), Where: at(9, 1)}, {Year: 1901, Ref: ref(1, 2), Where: tray(9, 1, 2)}, {Year: 1901, Ref: ref(2, 1), Where: at(9, 2)}, {Year: 1903, Ref: ref(2, 2), Where: broken(9)}}
	if out, e := benches.Stays(l, 9); e != api.OK || !sameList(out, want) {
		t.Error("stays of the example", out, e)
	}
}

// checkPlaces checks that each registered piece is in exactly one place, and that no pane holds two things.
func checkPlaces(t *testing.T, l []api.Note, r api.Register) {
	t.Helper()
	panes := map[int]int{}
	for _, h := range r.New {
		panes[h.Pane]++
	}
	if len(r.Pieces) != len(r.Where) {
		t.Error("pieces and places", l, r)
		return
	}
	for k, w := range r.Where {
		if w.Piece != r.Pieces[k].ID || k > 0 && w.Piece <= r.Pieces[k-1].ID || w.Kind < api.AtBench || w.Kind > api.Broken {
			t.Error("a piece and its place", l, r)
		}
		if w.Kind == api.InPane {
			panes[w.At]++
		}
	}
	for pane, n := range panes {
		if n != 1 {
			t.Error("a pane holds", n, pane, l, r)
		}
	}
}

// TestOnePlace checks P9.3: each piece is in one place, and stays registered when notes are added.
func TestOnePlace(t *testing.T) {
	d := thrower{rand.New(rand.NewSource(6))}
	for _, l := range thrown() {
		r := fold(t, l)
		checkPlaces(t, l, r)
		more := slices.Clone(l)
		year, clock := 0, 0
		for _, n := range l {
			year, clock = max(year, n.Year), max(clock, n.Clock)
		}
		for k := range 5 {
			bench := d.bench()
			n := as(d.some(bench, l), bench, 100+k, clock+1+k, year+d.Intn(2))
			more = append(more, n)
		}
		after := fold(t, sorted(more, byName))
		for _, p := range r.Pieces {
			if !slices.ContainsFunc(after.Pieces, func(q api.Piece) bool { return sameValue(p, q) }) {
				t.Error("no longer registered", p.ID, l, more)
			}
		}
	}
}

// TestTwoClocks checks P9.4: the register of a year and the last stays until then tell the same of each piece, and what is known by a clock does not change by what is written later.
func TestTwoClocks(t *testing.T) {
	d := thrower{rand.New(rand.NewSource(7))}
	for _, l := range thrown() {
		year := d.Intn(13)
		r := asOf(t, l, year, api.MaxClock)
		for _, p := range fold(t, l).Pieces {
			stays, _ := benches.Stays(l, p.ID)
			var last api.Where
			for _, s := range stays {
				if s.Year <= year {
					last = s.Where
				}
			}
			w, _ := benches.WhereIs(r, p.ID)
			if w != last {
				t.Error("in the year", year, l, w, "but the last stay is", last)
			}
		}
		clock := d.Intn(20)
		early := slices.DeleteFunc(slices.Clone(l), func(n api.Note) bool { return n.Clock > clock })
		if !sameValue(asOf(t, l, year, clock), asOf(t, early, year, clock)) || !sameValue(asOf(t, l, late, clock), fold(t, early)) {
			t.Error("what was known at the clock", clock, l)
		}
	}
}

// TestTakenBack checks P9.4: a withdrawal, and a later correction to what the note said, leave the register as it was.
func TestTakenBack(t *testing.T) {
	d := thrower{rand.New(rand.NewSource(8))}
	for _, l := range thrown() {
		r := fold(t, l)
		bench := d.bench()
		n := as(d.some(bench, l), bench, 100, 1000, d.Intn(13))
		more := sorted(append(slices.Clone(l), n, as(withdraw(bench, 100), d.bench(), 101, n.Clock+1, d.Intn(13))), byName)
		if !sameValue(fold(t, more), r) {
			t.Error("a withdrawal", l, n)
		}
		for _, n := range wantEffective(l) {
			if n.Kind == api.NoteGot {
				continue
			}
			// only a bench that may give the IDs of the note can say the same
			by := n.Bench
			for _, id := range append(idsOf(n.Data), n.Item.ID) {
				if id > 0 {
					by = (id-1)%8 + 1
				}
			}
			wrong := as(correct(n.Bench, n.Num, take(60)), d.bench(), 101, 1000, d.Intn(13))
			right := as(correct(n.Bench, n.Num, n), by, 102, 1001, n.Year)
			more := sorted(append(slices.Clone(l), wrong, right), byName)
			if !isSet(more) || !sameValue(fold(t, more), r) {
				t.Error("a correction to what the note said", l, wrong, right)
			}
		}
	}
}

func idsOf(l []api.Piece) []int {
	var out []int
	for _, p := range l {
		out = append(out, p.ID)
	}
	return out
}

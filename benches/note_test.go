package benches_test

import (
	"math"
	"slices"
	"testing"

	"leadlight/api"
	"leadlight/benches"
)

// proper are well-formed notes of bench 1, by kind: those from NoteFind to NoteBreak, and one of new glass.
func proper() []api.Note {
	l := []api.Note{
		find(9), record(17), relead(2, 64), send(2, 3, 65535), got(2, 400), set(5, 7, api.Setting{Shift: 23, Back: true}), take(64), breakUp(2, 1, 9, 17, 25),
		setNew(1, 16),
	}
	for k := range l {
		l[k] = as(l[k], 1, 2, 3, 1900)
	}
	return l
}

// corrections are the well-formed corrections to what proper says, and withdrawals of notes.
func corrections() []api.Note {
	var out []api.Note
	for _, n := range proper() {
		if n.Kind != api.NoteGot {
			out = append(out, correct(8, 400, n))
		}
	}
	return append(out, as(withdraw(1, 1), 1, 2, 3, 1900))
}

// TestProper checks the well-formed notes, up to their limits.
func TestProper(t *testing.T) {
	l := append(proper(), corrections()...)
	for _, bench := range []int{1, 8} {
		for _, num := range []int{1, 400} {
			for _, clock := range []int{1, 1 << 20} {
				for _, year := range []int{0, 9999} {
					l = append(l, as(take(1), bench, num, clock, year), as(withdraw(bench, num), bench, num, clock, year))
				}
			}
		}
	}
	for _, n := range []api.Note{
		send(1, 1), send(8, list(64)...), relead(1), relead(list(64)...), got(1, 1), got(8, 400),
		set(1, 1, api.Setting{}), set(64, 65535, api.Setting{Shift: 23}), set(1, 1, api.Setting{Back: true}), setNew(1, 1), setNew(64, 16),
		take(1), breakUp(1, 9), breakUp(65535, 9), breakUp(9, 9), find(1), find(65529),
		correct(1, 1, find(9)), correct(8, 400, take(1)),
	} {
		l = append(l, as(n, 1, 1, 1, 0))
	}
	for _, n := range l {
		if e := benches.CheckNote(n); e != api.OK {
			t.Error("CheckNote", n, e)
		}
	}
}

// list returns the numbers 1 to n.
func list(n int) []int {
	var out []int
	for k := range n {
		out = append(out, k+1)
	}
	return out
}

// TestItems checks that a note may record an item of which nothing is right but its ID, its Kind and its lengths.
func TestItems(t *testing.T) {
	free := func(x api.Item) api.Errno {
		return benches.CheckNote(as(api.Note{Kind: api.NoteRecord, Item: x}, 1, 1, 1, 0))
	}
	x := api.Item{
		ID: 9, Kind: 1, Year: math.MinInt, Film: math.MaxInt, Piece: -1, Lead: -1, Slack: -1, Panes: make([]int, 64), Colours: make([]int, 16),
		Count: api.Span{Lo: 5, Hi: math.MinInt}, Sights: make([]api.Sight, 16),
	}
	for kind := -1; kind <= 9; kind++ {
		x.Kind = kind
		if e := free(x); (e == api.OK) != (kind >= 1 && kind <= 7) {
			t.Error("item of the kind", kind, e)
		}
	}
	x.Kind = api.ItemFace
	for id, want := range map[int]api.Errno{1: api.OK, 65529: api.OK, 65537: api.ErrNote, -7: api.ErrNote, 0: api.ErrNote, 8: api.ErrNote, 10: api.ErrNote} {
		y := x
		y.ID = id
		if e := free(y); e != want {
			t.Error("item", id, e)
		}
	}
	for _, y := range []api.Item{
		{ID: 9, Kind: 1, Panes: make([]int, 65)}, {ID: 9, Kind: 1, Colours: make([]int, 17)}, {ID: 9, Kind: 1, Sights: make([]api.Sight, 17)},
	} {
		if e := free(y); e != api.ErrNote {
			t.Error("a list that is too long", e)
		}
	}
}

// change is a change of a note.
type change struct {
	field string
	do    func(n *api.Note)
}

// fills are changes that give content to a note that has not got it.
func fills() []change {
	item := func(field string, do func(x *api.Item)) change {
		return change{"Item", func(n *api.Note) { do(&n.Item) }}
	}
	return []change{
		{"Piece", func(n *api.Note) { n.Piece = 1 }},
		{"Pane", func(n *api.Note) { n.Pane = 1 }},
		{"Colour", func(n *api.Note) { n.Colour = 1 }},
		{"To", func(n *api.Note) { n.To = 1 }},
		{"Setting", func(n *api.Note) { n.Setting.Shift = 1 }},
		{"Setting", func(n *api.Note) { n.Setting.Back = true }},
		{"Ref", func(n *api.Note) { n.Ref.Bench = 1 }},
		{"Ref", func(n *api.Note) { n.Ref.Num = 1 }},
		{"Ref", func(n *api.Note) { n.Ref = ref(1, 1) }},
		{"Pieces", func(n *api.Note) { n.Pieces = []int{1} }},
		{"Panes", func(n *api.Note) { n.Panes = []int{1} }},
		{"Data", func(n *api.Note) { n.Data = squares(1) }},
		item("ID", func(x *api.Item) { x.ID = 1 }),
		item("Kind", func(x *api.Item) { x.Kind = 1 }),
		item("Year", func(x *api.Item) { x.Year = 1 }),
		item("Film", func(x *api.Item) { x.Film = 1 }),
		item("Piece", func(x *api.Item) { x.Piece = 1 }),
		item("Lead", func(x *api.Item) { x.Lead = 1 }),
		item("Slack", func(x *api.Item) { x.Slack = 1 }),
		item("Panes", func(x *api.Item) { x.Panes = []int{1} }),
		item("Colours", func(x *api.Item) { x.Colours = []int{1} }),
		item("Count", func(x *api.Item) { x.Count.Lo = 1 }),
		item("Count", func(x *api.Item) { x.Count.Hi = 1 }),
		item("Sights", func(x *api.Item) { x.Sights = make([]api.Sight, 1) }),
	}
}

// TestUnused checks that a note has no content beyond what its kind uses.
func TestUnused(t *testing.T) {
	uses := map[int][]string{
		api.NoteFind: {"Data"}, api.NoteRecord: {"Item"}, api.NoteRelead: {"Panes"}, api.NoteSend: {"Pieces", "To"}, api.NoteGot: {"Ref"},
		api.NoteSet: {"Pane", "Piece", "Colour", "Setting"}, api.NoteTake: {"Pane"}, api.NoteBreak: {"Piece", "Data"},
	}
	for _, n := range append(proper(), corrections()...) {
		used := slices.Concat(uses[n.Kind], uses[n.Fix])
		if n.Kind >= api.NoteCorrect {
			used = append(used, "Ref")
		}
		for _, c := range fills() {
			if slices.Contains(used, c.field) {
				continue
			}
			bad := n
			c.do(&bad)
			if e := benches.CheckNote(bad); e != api.ErrNote {
				t.Error("CheckNote with", c.field, bad, e)
			}
		}
		// nothing and an empty list are the same
		empty := n
		empty.Pieces, empty.Panes, empty.Data = append([]int{}, n.Pieces...), append([]int{}, n.Panes...), append([]api.Piece{}, n.Data...)
		if e := benches.CheckNote(empty); e != api.OK {
			t.Error("CheckNote with empty lists", empty, e)
		}
	}
}

// TestStamps checks Bench, Num, Clock, Year, Kind and Fix of notes of all kinds.
func TestStamps(t *testing.T) {
	for _, n := range append(proper(), corrections()...) {
		l := []api.Note{
			as(n, 1, 0, 1, 0), as(n, 1, -1, 1, 0), as(n, 1, 401, 1, 0), as(n, 1, 1, 0, 0), as(n, 1, 1, -1, 0), as(n, 1, 1, 1<<20+1, 0),
			as(n, 1, 1, 1, -1), as(n, 1, 1, 1, 10000), as(n, 0, 1, 1, 0), as(n, 9, 1, 1, 0), as(n, -7, 1, 1, 0), as(n, 17, 1, 1, 0),
		}
		for _, kind := range []int{math.MinInt, -1, 0, 11, math.MaxInt} {
			bad := n
			bad.Kind = kind
			l = append(l, bad)
		}
		for _, fix := range []int{-1, 5, 9, 10, 11} {
			bad := n
			bad.Fix = fix
			l = append(l, bad)
		}
		other := n
		other.Fix = 7 - 7*n.Fix // a Fix, where there was none
		if n.Kind == api.NoteCorrect {
			other.Fix = 0
		}
		for _, bad := range append(l, other) {
			if e := benches.CheckNote(bad); e != api.ErrNote {
				t.Error("CheckNote", bad, e)
			}
		}
	}
}

// TestContents checks the fields that the kinds use.
func TestContents(t *testing.T) {
	flat := square(9)
	flat.Gauges = flat.Gauges[:2]
	data := func(kind int, l ...api.Piece) api.Note { return api.Note{Kind: kind, Data: l} }
	l := []api.Note{
		{Kind: api.NoteFind}, data(api.NoteFind, flat), data(api.NoteFind, squares(1, 9)...), find(0), find(65537), find(-7),
		{Kind: api.NoteRecord},
		relead(), relead(0), relead(0, 1), relead(65), relead(2, 2), relead(3, 2), relead(append(list(64), 65)...),
		send(2), send(2, 0), send(2, 65536), send(2, 3, 3), send(2, 4, 3), send(2, list(65)...), send(0, 1), send(9, 1), send(-1, 1),
		got(0, 1), got(9, 1), got(1, 0), got(1, 401), got(-1, -1),
		set(0, 1, api.Setting{}), set(65, 1, api.Setting{}), set(1, 65536, api.Setting{}), set(1, -1, api.Setting{}),
		set(1, 1, api.Setting{Shift: -1}), set(1, 1, api.Setting{Shift: 24}), {Kind: api.NoteSet, Pane: 1, Piece: 1, Colour: 1},
		setNew(0, 1), setNew(65, 1), setNew(1, 0), setNew(1, 17), setNew(1, -1),
		{Kind: api.NoteSet, Pane: 1, Colour: 1, Setting: api.Setting{Shift: 1}}, {Kind: api.NoteSet, Pane: 1, Colour: 1, Setting: api.Setting{Back: true}},
		take(0), take(65), take(-1),
		breakUp(0, 9), breakUp(65536, 9), breakUp(2), breakUp(2, 1, 9, 17, 25, 33), breakUp(2, 9, 9), breakUp(2, 9, 1), data(api.NoteBreak, squares(9)...),
		breakUp(2, 1, 10), {Kind: api.NoteBreak, Piece: 2, Data: append(squares(1), flat)},
	}
	for _, n := range l {
		n = as(n, 1, 1, 1, 0)
		if e := benches.CheckNote(n); e != api.ErrNote {
			t.Error("CheckNote", n, e)
		}
		if n = correct(1, 1, n); n.Fix != api.NoteGot && benches.CheckNote(n) != api.ErrNote {
			t.Error("CheckNote", n)
		}
	}
	if e := benches.CheckNote(correct(1, 1, as(got(1, 1), 1, 1, 1, 0))); e != api.ErrNote {
		t.Error("a correction to NoteGot", e)
	}
	for _, r := range []api.Ref{ref(0, 1), ref(9, 1), ref(1, 0), ref(1, 401), {}} {
		for _, n := range []api.Note{correct(r.Bench, r.Num, take(1)), withdraw(r.Bench, r.Num)} {
			if e := benches.CheckNote(as(n, 1, 1, 1, 0)); e != api.ErrNote {
				t.Error("CheckNote", n, e)
			}
		}
	}
}

// TestIDs checks that each bench gives IDs of its own: bench 2 gives 2, 10, 18, ..
func TestIDs(t *testing.T) {
	for bench := 1; bench <= 8; bench++ {
		for id := 1; id <= 40; id++ {
			want := api.ErrNote
			if id%8 == bench%8 {
				want = api.OK
			}
			for _, n := range []api.Note{
				find(id), record(id), breakUp(1, id), breakUp(1, id, id+8), correct(1, 1, find(id)), correct(1, 1, record(id)), correct(1, 1, breakUp(1, id)),
			} {
				if e := benches.CheckNote(as(n, bench, 1, 1, 0)); e != want {
					t.Error("CheckNote", bench, id, n.Kind, n.Fix, e)
				}
			}
			// what it does not give may be of any bench
			for _, n := range []api.Note{send(1, id), set(1, id, api.Setting{}), breakUp(id, bench)} {
				if e := benches.CheckNote(as(n, bench, 1, 1, 0)); e != api.OK {
					t.Error("CheckNote", bench, id, n.Kind, e)
				}
			}
		}
	}
}

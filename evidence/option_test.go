package evidence_test

import (
	"math/rand"
	"slices"
	"testing"

	"leadlight/api"
	"leadlight/evidence"
)

// TestOptionExamples are the chapter's examples of options.
func TestOptionExamples(t *testing.T) {
	c := example()
	lost := []api.Option{fresh(1), fresh(2)}
	for year, want := range map[int][]api.Option{0: lost, 1299: lost, 1300: {glazed(1, 1), fresh(1), fresh(2)}, 9999: {glazed(1, 1), fresh(1), fresh(2)}} {
		if l, e := evidence.Options(c, 1, year); !slices.Equal(l, want) || e != api.OK {
			t.Error("Options", year, l, e)
		}
		if l, e := evidence.Options(c, 2, year); !slices.Equal(l, lost) || e != api.OK {
			t.Error("Options of pane 2", year, l, e)
		}
	}
	if a, edge, b, other, e := evidence.Whole(c, 6); a != 2 || edge != 0 || b != 1 || other != 2 || e != api.OK {
		t.Error("Whole", a, edge, b, other, e)
	}
	if l, e := evidence.Marked(c, 1, glazed(1, 1), 0); !slices.Equal(l, []api.Mark{mark(0, 4, 1)}) || e != api.OK {
		t.Error("Marked", l, e)
	}
}

// TestWhole compares E4 with its rule, for leads that are there, and for such that are not.
func TestWhole(t *testing.T) {
	for _, s := range samples() {
		ids := append(extremes(), -1, 0, 65535, 65536, 1000)
		for _, l := range s.Web.Leads {
			ids = append(ids, l.ID)
		}
		for _, id := range ids {
			want := api.OK
			if s.whole[id] == (sides{}) {
				want = api.ErrNone
			}
			a, edge, b, other, e := evidence.Whole(s.Case, id)
			if (sides{a, edge, b, other}) != s.whole[id] || e != want {
				t.Fatal(s, id, a, edge, b, other, e)
			}
		}
	}
}

// TestWholeLeads has webs of which it is known which leads are whole.
func TestWholeLeads(t *testing.T) {
	webs := knownWebs()
	for name, want := range map[string][]int{
		"example": {6}, "one pane": nil, "two leads": nil, "bent": {7, 8}, "two to one": {10}, "straight rim": nil,
	} {
		var got []int
		for _, l := range webs[name].Leads {
			if _, _, _, _, e := evidence.Whole(api.Case{Web: webs[name], Palette: 1}, l.ID); e == api.OK {
				got = append(got, l.ID)
			}
		}
		if !slices.Equal(got, want) {
			t.Error(name, got)
		}
	}
}

// TestOptions compares E11 to E13 with their rules.
func TestOptions(t *testing.T) {
	for _, s := range samples() {
		for _, pane := range s.panes {
			for _, p := range s.Pieces {
				if l, e := evidence.Fitting(s.Case, pane.ID, p.ID); !slices.Equal(l, s.fitting(pane, p)) || e != api.OK {
					t.Fatal("Fitting", s, pane, p, l, e)
				}
			}
			for _, year := range []int{0, 4, 9999} {
				want := s.options(pane.ID, year)
				if l, e := evidence.Options(s.Case, pane.ID, year); !slices.Equal(l, want) || e != api.OK {
					t.Fatal("Options", s, pane, year, l, e)
				}
				s.checkIndex(t, pane.ID, year, want)
			}
		}
	}
}

// checkIndex checks Index for options, for those of the year 9999, and for some that are none.
func (s sample) checkIndex(t *testing.T, pane, year int, options []api.Option) {
	t.Helper()
	some := append(s.options(pane, 9999), api.Option{}, fresh(s.Palette+1), fresh(-1), api.Option{Setting: turned(1), Colour: 1}, api.Option{Setting: over(0), Colour: 1}, glazed(999, 1), glazed(-1, 1))
	for _, o := range options {
		recoloured := o
		recoloured.Colour++
		some = append(some, recoloured)
	}
	for _, n := range extremes() {
		some = append(some, api.Option{Piece: n, Setting: turned(n), Colour: n})
	}
	for _, o := range some {
		at, e := evidence.Index(s.Case, pane, year, o)
		want := slices.Index(options, o)
		if want >= 0 && (at != want || e != api.OK) || want < 0 && (at != 0 || e != api.ErrNone) {
			t.Fatal("Index", s, pane, year, o, at, e)
		}
	}
}

// TestHeld has flanges that are just wide enough, and one that is not.
func TestHeld(t *testing.T) {
	for _, x := range []struct {
		swell, flange int
		held          bool
	}{{0, 0, true}, {-1, 0, false}, {-1, 1, true}, {-3, 2, false}, {-3, 3, true}, {64, 0, true}, {-64, 64, true}, {-64, 63, false}} {
		// The pane 1 lies to the left of the leads 1 and 2, and to the right of the lead 6.
		for lead := range 3 {
			c := example()
			c.Pieces[0].Swell = x.swell
			for k := range c.Web.Leads {
				c.Web.Leads[k].Left, c.Web.Leads[k].Right = 64, 64
			}
			*[]*int{&c.Web.Leads[0].Left, &c.Web.Leads[1].Left, &c.Web.Leads[5].Right}[lead] = x.flange
			l, e := evidence.Fitting(c, 1, 1)
			options, e2 := evidence.Options(c, 1, 1300)
			if (len(l) == 1) != x.held || (len(options) == 3) != x.held || e != api.OK || e2 != api.OK {
				t.Error(x, lead, l, options, e, e2)
			}
			// The other sides of the leads hold what lies there.
			c.Web.Leads[0].Right, c.Web.Leads[1].Right, c.Web.Leads[5].Left = 0, 0, 0
			if again, _ := evidence.Fitting(c, 1, 1); !slices.Equal(l, again) {
				t.Error("other sides", x, lead, again)
			}
		}
	}
}

// TestOptionOrder is P6.3.
func TestOptionOrder(t *testing.T) {
	key := func(o api.Option) []int {
		k := []int{o.Piece, o.Setting.Shift, 0, o.Colour}
		if o.Piece == 0 {
			k[0] = 65536
		}
		if o.Setting.Back {
			k[2] = 1
		}
		return k
	}
	for _, s := range samples() {
		bare := s.Case
		bare.Items, bare.Releads, bare.Films = nil, nil, nil
		for _, pane := range s.panes {
			var before []api.Option
			for _, year := range someYears() {
				l, e := evidence.Options(s.Case, pane.ID, year)
				if again, e2 := evidence.Options(bare, pane.ID, year); !slices.Equal(l, again) || e != api.OK || e2 != api.OK {
					t.Fatal("items", s, pane, year, l, again)
				}
				for k := range l {
					if k > 0 && slices.Compare(key(l[k-1]), key(l[k])) >= 0 {
						t.Fatal("order", s, pane, year, l)
					}
				}
				for _, o := range before {
					if !slices.Contains(l, o) {
						t.Fatal("later", s, pane, year, o)
					}
				}
				before = l
			}
		}
	}
}

// TestMarked compares E14 with its rule, and is P6.7.
func TestMarked(t *testing.T) {
	shown := 0
	for _, s := range samples() {
		for _, pane := range s.panes {
			for _, o := range s.options(pane.ID, 9999) {
				var tones, all []int
				for edge := range pane.Outline {
					l, e := evidence.Marked(s.Case, pane.ID, o, edge)
					if !slices.Equal(l, s.marked(o, edge)) || e != api.OK {
						t.Fatal(s, pane, o, edge, l, e)
					}
					for _, m := range l {
						tones = append(tones, m.Tone)
					}
				}
				if o.Piece > 0 {
					for _, m := range s.piece(o.Piece).Marks {
						all = append(all, m.Tone)
					}
				}
				slices.Sort(tones)
				slices.Sort(all)
				if !slices.Equal(tones, all) {
					t.Fatal("tones", s, pane, o, tones, all)
				}
				shown += len(all)
			}
		}
	}
	if shown < 500 {
		t.Error("few marks", shown)
	}
}

// TestMarkedArguments has options that are none of the pane: they show marks as far as the piece has as many edges.
func TestMarkedArguments(t *testing.T) {
	c := full()
	four := c.Pieces[1]
	four.ID, four.Gauges, four.Marks = 9, slices.Repeat(four.Gauges[:1], 4), []api.Mark{mark(3, 1, 2), mark(3, 2, 1)}
	c.Pieces = append(c.Pieces, four)
	type call struct {
		pane, edge int
		o          api.Option
		want       api.Errno
		marks      []api.Mark
	}
	calls := []call{
		{1, 0, glazed(1, 1), api.OK, []api.Mark{mark(0, 4, 1)}},
		{1, 1, glazed(1, 1), api.OK, nil},
		{1, 2, api.Option{Piece: 1, Setting: turned(2), Colour: 9}, api.OK, []api.Mark{mark(2, 4, 1)}},
		{1, 1, api.Option{Piece: 1, Setting: over(1)}, api.OK, []api.Mark{mark(1, 12, 1)}},
		{2, 2, api.Option{Piece: 9, Setting: turned(3)}, api.OK, []api.Mark{mark(2, 1, 2), mark(2, 2, 1)}},
		{2, 0, api.Option{Piece: 9, Setting: over(3)}, api.OK, []api.Mark{mark(0, 14, 1), mark(0, 15, 2)}},
		{1, 2, fresh(2), api.OK, nil},
		{1, 2, api.Option{Setting: turned(-7), Colour: -1}, api.OK, nil},
		{1, 3, fresh(2), api.ErrNone, nil},
		{0, 0, fresh(2), api.ErrNone, nil},
		{2, 4, glazed(9, 1), api.ErrNone, nil},
		{1, 0, glazed(2, 1), api.ErrNone, nil},
		{1, 0, glazed(-1, 1), api.ErrNone, nil},
		{1, 0, glazed(9, 1), api.ErrArg, nil},
		{2, 0, glazed(1, 1), api.ErrArg, nil},
		// What is named first comes first: the pane and the edge, then the piece, then its setting.
		{1, -1, api.Option{Piece: 9, Setting: turned(-1)}, api.ErrNone, nil},
		{3, 0, api.Option{Piece: 9, Setting: turned(-1)}, api.ErrNone, nil},
		{1, 0, api.Option{Piece: 2, Setting: turned(-1)}, api.ErrNone, nil},
	}
	for _, n := range append(extremes(), -1, 3) {
		calls = append(calls,
			call{1, 0, api.Option{Piece: 1, Setting: turned(n), Colour: 1}, api.ErrArg, nil},
			call{1, 0, api.Option{Piece: 1, Setting: over(n), Colour: 1}, api.ErrArg, nil},
			call{1, n, glazed(1, 1), api.ErrNone, nil},
			call{n, 0, glazed(1, 1), api.ErrNone, nil})
	}
	for _, x := range calls {
		if l, e := evidence.Marked(c, x.pane, x.o, x.edge); !slices.Equal(l, x.marks) || e != x.want {
			t.Error(x, l, e)
		}
	}
}

// loosePieces returns n triangles that fit every triangle in all six settings.
func loosePieces(n int) []api.Piece {
	var out []api.Piece
	g := api.Gauge{Edge: span(1, 40), Across: span(0, 40)}
	for k := range n {
		out = append(out, api.Piece{ID: k + 1, Colour: 1, Reverse: 1, Made: k, Gauges: []api.Gauge{g, g, g}})
	}
	return out
}

// TestOptionLimit has as many options as there may be, and one more. The pane 2 has more corners, so it has few.
func TestOptionLimit(t *testing.T) {
	c := api.Case{Web: exampleWeb(), Palette: 4, Pieces: loosePieces(42)}
	if l, e := evidence.Options(c, 1, 41); len(l) != 256 || e != api.OK {
		t.Error("most", len(l), e)
	}
	if at, e := evidence.Index(c, 1, 41, fresh(4)); at != 255 || e != api.OK {
		t.Error("last", at, e)
	}
	c.Palette = 5
	if l, e := evidence.Options(c, 1, 40); len(l) != 251 || e != api.OK {
		t.Error("the year before", len(l), e)
	}
	if l, e := evidence.Options(c, 1, 41); len(l) != 0 || e != api.ErrLimit {
		t.Error("one more", l, e)
	}
	if l, e := evidence.Options(c, 2, 41); len(l) != 5 || e != api.OK {
		t.Error("pane 2", l, e)
	}
	for _, o := range []api.Option{fresh(1), fresh(6), {}} {
		if at, e := evidence.Index(c, 1, 41, o); at != 0 || e != api.ErrLimit {
			t.Error("Index", o, at, e)
		}
	}
	if l, e := evidence.Fitting(c, 1, 42); len(l) != 6 || e != api.OK {
		t.Error("Fitting", l, e)
	}
	c.Pieces, c.Palette = loosePieces(64), 16
	if l, e := evidence.Options(c, 1, 9999); len(l) != 0 || e != api.ErrLimit {
		t.Error("all", l, e)
	}
}

// TestLaterYears has pieces that are made at thrown years: each stands from its year on.
func TestLaterYears(t *testing.T) {
	d := rand.New(rand.NewSource(63))
	c := example()
	for range 50 {
		c.Pieces[0].Made = d.Intn(10000)
		for _, year := range []int{c.Pieces[0].Made, d.Intn(10000), max(c.Pieces[0].Made-1, 0)} {
			l, e := evidence.Options(c, 1, year)
			if (len(l) == 3) != (c.Pieces[0].Made <= year) || e != api.OK {
				t.Error(c.Pieces[0].Made, year, l, e)
			}
		}
	}
}

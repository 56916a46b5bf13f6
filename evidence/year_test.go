package evidence_test

import (
	"math/rand"
	"slices"
	"testing"

	"leadlight/api"
	"leadlight/evidence"
)

// TestYearExamples are the chapter's examples of years, and that of the document: an inventory of 1850 is silent for 1900 if a pane that it names was releaded in 1871.
func TestYearExamples(t *testing.T) {
	c := example()
	c.Items = []api.Item{keptItem()}
	c.Releads = []api.Relead{relead(1350, 1)}
	if s, e := evidence.Reach(c, 7); s != span(1350, 9999) || e != api.OK {
		t.Error("Reach", s, e)
	}
	if at, e := evidence.Silencer(c, 7, 1340); at != 0 || e != api.OK {
		t.Error("Silencer", at, e)
	}
	if l, e := evidence.Epochs(c); !slices.Equal(l, []api.Span{span(0, 1299), span(1300, 1349), span(1350, 9999)}) || e != api.OK {
		t.Error("Epochs", l, e)
	}
	c = api.Case{Web: lattice(3, 1), Palette: 1, Releads: []api.Relead{relead(1871, 3)}}
	c.Items = []api.Item{{ID: 1, Kind: api.ItemInventory, Year: 1850, Panes: []int{2, 3}, Colours: []int{1}}}
	for year, want := range map[int]bool{1900: false, 1871: false, 1870: true, 1850: true, 0: true} {
		if is, e := evidence.Speaks(c, 1, year); is != want || e != api.OK {
			t.Error("Speaks", year, is, e)
		}
	}
}

// TestSilencerEdges has releadings in the years at which silence begins.
func TestSilencerEdges(t *testing.T) {
	for _, x := range []struct {
		year, relead, asked, want int
	}{
		{50, 50, 50, -1}, {50, 50, 49, 0}, {50, 50, 51, -1}, {50, 51, 50, -1}, {50, 51, 51, 0}, {50, 51, 9999, 0},
		{50, 40, 40, -1}, {50, 40, 39, 0}, {50, 40, 41, -1}, {50, 0, 0, -1}, {50, 9999, 9998, -1}, {50, 9999, 9999, 0},
		{0, 0, 9999, -1}, {9999, 9999, 9999, -1}, {9999, 9999, 9998, 0}, {0, 1, 0, -1}, {0, 1, 1, 0},
	} {
		c := example()
		c.Items = []api.Item{{ID: 1, Kind: api.ItemFace, Year: x.year, Panes: []int{2}}}
		c.Releads = []api.Relead{relead(x.relead, 2)}
		if at, e := evidence.Silencer(c, 1, x.asked); at != x.want || e != api.OK {
			t.Error(x, at, e)
		}
		// A releading of another pane silences nothing, and of several the first one is told.
		c.Releads = []api.Relead{relead(x.relead, 1), relead(x.relead, 1, 2), relead(x.relead, 2)}
		want := x.want
		if want == 0 {
			want = 1
		}
		if at, e := evidence.Silencer(c, 1, x.asked); at != want || e != api.OK {
			t.Error("of several", x, at, e)
		}
	}
}

// TestNames is E3, for one item of each kind.
func TestNames(t *testing.T) {
	c := full()
	c.Items = append(c.Items, api.Item{ID: 80, Kind: api.ItemKept, Piece: 1}, api.Item{ID: 90, Kind: api.ItemRubbing, Sights: []api.Sight{{Pane: 2}, {Pane: 2, Edge: 1}, {Pane: 2}}})
	for id, want := range map[int][]int{10: {1, 2}, 20: {1, 2}, 30: {1, 2}, 40: {2}, 50: {1, 2}, 60: {1}, 70: {1, 2}, 80: {1, 2}, 90: {2}} {
		if l, e := evidence.Names(c, id); !slices.Equal(l, want) || e != api.OK {
			t.Error(id, l, e)
		}
	}
}

// TestYears compares E3 and E5 to E10 with their rules, and is the first part of P6.2.
func TestYears(t *testing.T) {
	for _, s := range samples() {
		for _, year := range someYears() {
			s.checkYear(t, year)
		}
		for _, x := range s.Items {
			s.checkReach(t, x)
			var want []int
			for _, pane := range s.panes {
				if s.isNamed(x, pane.ID) {
					want = append(want, pane.ID)
				}
			}
			if l, e := evidence.Names(s.Case, x.ID); !slices.Equal(l, want) || e != api.OK {
				t.Fatal("Names", s, x, l, e)
			}
		}
	}
}

// checkYear checks who speaks and what stands in a year.
func (s sample) checkYear(t *testing.T, year int) {
	t.Helper()
	var spoken, standing []int
	for _, x := range s.Items {
		want := s.silencer(x, year)
		if want < 0 {
			spoken = append(spoken, x.ID)
		}
		at, e := evidence.Silencer(s.Case, x.ID, year)
		speaks, e2 := evidence.Speaks(s.Case, x.ID, year)
		if at != want || speaks != (want < 0) || e != api.OK || e2 != api.OK {
			t.Fatal("Silencer", s, x, year, at, speaks)
		}
	}
	for _, p := range s.Pieces {
		if p.Made <= year {
			standing = append(standing, p.ID)
		}
	}
	if l, e := evidence.Spoken(s.Case, year); !slices.Equal(l, spoken) || e != api.OK {
		t.Fatal("Spoken", s, year, l, e)
	}
	if l, e := evidence.Standing(s.Case, year); !slices.Equal(l, standing) || e != api.OK {
		t.Fatal("Standing", s, year, l, e)
	}
}

// checkReach checks that the reach of an item contains its year, and just the years for which it speaks.
func (s sample) checkReach(t *testing.T, x api.Item) {
	t.Helper()
	reach, e := evidence.Reach(s.Case, x.ID)
	if !in(x.Year, reach) || e != api.OK {
		t.Fatal("Reach", s, x, reach, e)
	}
	for year := range 10000 {
		if in(year, reach) != (s.silencer(x, year) < 0) {
			t.Fatal("Reach", s, x, reach, year)
		}
	}
}

// TestEpochs compares E9 with its rule, and is the last part of P6.2.
func TestEpochs(t *testing.T) {
	several := 0
	for _, s := range samples() {
		l, e := evidence.Epochs(s.Case)
		if e != api.OK || len(l) == 0 || l[0].Lo != 0 || l[len(l)-1].Hi != 9999 {
			t.Fatal(s, l, e)
		}
		k := 0
		for year := 1; year < 10000; year++ {
			// The next epoch begins where something differs from the year before.
			if s.differ(year-1, year) {
				if l[k].Hi != year-1 || l[k+1].Lo != year {
					t.Fatal(s, l, year)
				}
				k++
			}
		}
		if k != len(l)-1 {
			t.Fatal("too many", s, l)
		}
		if k > 2 {
			several++
		}
		for _, epoch := range l {
			p, e1 := evidence.Compile(s.Case, epoch.Lo)
			q, e2 := evidence.Compile(s.Case, epoch.Hi)
			r, e3 := evidence.Compile(s.Case, (epoch.Lo+epoch.Hi)/2)
			if !sameProblem(p, q) || !sameProblem(p, r) || e1 != e2 || e1 != e3 {
				t.Fatal("problems", s, epoch)
			}
		}
	}
	if several < 100 {
		t.Error("few", several)
	}
}

// differ reports whether other items speak, or other pieces stand, in two years.
func (s sample) differ(year, other int) bool {
	for _, x := range s.Items {
		if (s.silencer(x, year) < 0) != (s.silencer(x, other) < 0) {
			return true
		}
	}
	return slices.ContainsFunc(s.Pieces, func(p api.Piece) bool { return (p.Made <= year) != (p.Made <= other) })
}

// TestEpochEnds has changes in the first and in the last year, and two in one.
func TestEpochEnds(t *testing.T) {
	c := example()
	if l, e := evidence.Epochs(api.Case{Web: c.Web, Palette: 1}); !slices.Equal(l, []api.Span{span(0, 9999)}) || e != api.OK {
		t.Error("nothing", l, e)
	}
	for _, x := range []struct {
		made  int
		years []int
		want  []api.Span
	}{
		{0, nil, []api.Span{span(0, 9999)}},
		{9999, nil, []api.Span{span(0, 9998), only(9999)}},
		{0, []int{9999}, []api.Span{span(0, 9998), only(9999)}},
		{0, []int{1}, []api.Span{only(0), span(1, 9999)}},
		{0, []int{0}, []api.Span{span(0, 9999)}},
		{1, []int{1}, []api.Span{only(0), span(1, 9999)}},
		{1400, []int{1400, 1401}, []api.Span{span(0, 1399), only(1400), span(1401, 9999)}},
		{7, []int{500, 1400, 2000, 1500}, []api.Span{span(0, 6), span(7, 1399), span(1400, 1499), span(1500, 9999)}},
	} {
		c := example()
		c.Pieces[0].Made = x.made
		c.Items = []api.Item{keptItem()}
		for _, year := range x.years {
			c.Releads = append(c.Releads, relead(year, 1))
		}
		if l, e := evidence.Epochs(c); !slices.Equal(l, x.want) || e != api.OK {
			t.Error(x, l, e)
		}
	}
}

// TestMoreReleads is the part of P6.2 that an item speaks for no more years with more releadings.
func TestMoreReleads(t *testing.T) {
	d := rand.New(rand.NewSource(62))
	fewer := 0
	for _, s := range samples() {
		more := s.Case
		more.Releads = append(slices.Clone(s.Releads), relead(thrownYear(d), part(d, len(s.panes))...))
		d.Shuffle(len(more.Releads), func(i, k int) { more.Releads[i], more.Releads[k] = more.Releads[k], more.Releads[i] })
		for _, x := range s.Items {
			before, e1 := evidence.Reach(s.Case, x.ID)
			after, e2 := evidence.Reach(more, x.ID)
			if !in(after.Lo, before) || !in(after.Hi, before) || e1 != api.OK || e2 != api.OK {
				t.Fatal(s, x, before, after)
			}
			if before != after {
				fewer++
			}
		}
	}
	if fewer < 50 {
		t.Error("few", fewer)
	}
}

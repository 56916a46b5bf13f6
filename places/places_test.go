package places_test

import (
	"slices"
	"testing"

	"leadlight/api"
	"leadlight/places"
)

// TestExamples are the chapter's examples of what is possible (G7 to G13), and that of a problem of two panes in the document.
func TestExamples(t *testing.T) {
	p := example()
	if f, e := places.First(p); !slices.Equal(f, []int{0, 1}) || e != api.OK {
		t.Error("First", f, e)
	}
	if f, e := places.Next(p, []int{0, 1}); len(f) > 0 || e != api.ErrNone {
		t.Error("Next", f, e)
	}
	if n, e := places.Count(p); n != 1 || e != api.OK {
		t.Error("Count", n, e)
	}
	if l, e := places.Possible(p); !sameBools(l, [][]bool{{true, false, false}, {false, true, false}}) || e != api.OK {
		t.Error("Possible", l, e)
	}
	if f, e := places.Forced(p); !slices.Equal(f, []int{0, 1}) || e != api.OK {
		t.Error("Forced", f, e)
	}
	if panes, nowhere, e := places.Where(p, 5); !slices.Equal(panes, []int{1}) || nowhere || e != api.OK {
		t.Error("Where", panes, nowhere, e)
	}
	l := []api.Option{glazed(1, 1), fresh(1)}
	one := api.Problem{Panes: []int{1, 2}, Options: [][]api.Option{l, slices.Clone(l)}, Rules: []api.Rule{counts(1, span(1, 2), []int{0, 1}, []bool{true, false}, []bool{true, false})}}
	if n, e := places.Count(one); n != 2 || e != api.OK {
		t.Error("two", n, e)
	}
	if f, e := places.Forced(one); !slices.Equal(f, []int{-1, -1}) || e != api.OK {
		t.Error("none forced", f, e)
	}
	if panes, nowhere, e := places.Where(one, 1); !slices.Equal(panes, []int{1, 2}) || nowhere || e != api.OK {
		t.Error("both", panes, nowhere, e)
	}
}

// TestNothing checks the problem without panes, which has one filling, and problems in which nothing agrees.
func TestNothing(t *testing.T) {
	var p api.Problem
	if f, e := places.First(p); len(f) > 0 || e != api.OK {
		t.Error("First", f, e)
	}
	if _, e := places.Next(p, nil); e != api.ErrNone {
		t.Error("Next", e)
	}
	if n, e := places.Count(p); n != 1 || e != api.OK {
		t.Error("Count", n, e)
	}
	if f, e := places.Forced(p); len(f) > 0 || e != api.OK {
		t.Error("Forced", f, e)
	}
	if panes, nowhere, e := places.Where(p, 1); len(panes) > 0 || !nowhere || e != api.OK {
		t.Error("Where", panes, nowhere, e)
	}
	for _, p := range []api.Problem{with(api.Problem{}, counts(1, only(1), nil)), with(example(), never())} {
		if f, e := places.First(p); len(f) > 0 || e != api.ErrClash {
			t.Error("First", f, e)
		}
		if f, e := places.Forced(p); len(f) > 0 || e != api.ErrClash {
			t.Error("Forced", f, e)
		}
		if n, e := places.Count(p); n != 0 || e != api.OK {
			t.Error("Count", n, e)
		}
		if panes, nowhere, e := places.Where(p, 5); len(panes) > 0 || nowhere || e != api.OK {
			t.Error("Where", panes, nowhere, e)
		}
		if l, e := places.Possible(p); len(l) != len(p.Panes) || slices.ContainsFunc(l, func(row []bool) bool { return len(row) != 3 || slices.Contains(row, true) }) || e != api.OK {
			t.Error("Possible", l, e)
		}
	}
}

// TestFillings compares G7 to G9 with their rules, and is P7.2.
func TestFillings(t *testing.T) {
	agree := 0
	for _, s := range samples(t) {
		want := s.agreeing()
		agree += min(len(want), 1)
		var got [][]int
		f, e := places.First(s.Problem)
		for e == api.OK {
			got = append(got, f)
			f, e = places.Next(s.Problem, f)
		}
		end := api.ErrNone
		if len(want) == 0 {
			end = api.ErrClash
		}
		if !slices.EqualFunc(got, want, slices.Equal[[]int]) || len(f) > 0 || e != end {
			t.Fatal(s, got, e)
		}
		if n, e := places.Count(s.Problem); n != len(want) || e != api.OK {
			t.Fatal(s, n, e)
		}
		s.checkNext(t, want)
	}
	if agree < 200 || agree > 500 {
		t.Error("few", agree)
	}
}

// checkNext checks Next behind every filling, whether or not it agrees.
func (s sample) checkNext(t *testing.T, agreeing [][]int) {
	t.Helper()
	for _, f := range s.fillings() {
		at := slices.IndexFunc(agreeing, func(g []int) bool { return slices.Compare(g, f) > 0 })
		g, e := places.Next(s.Problem, f)
		if at < 0 && (len(g) > 0 || e != api.ErrNone) || at >= 0 && (!slices.Equal(g, agreeing[at]) || e != api.OK) {
			t.Fatal(s, f, g, e)
		}
	}
}

// TestPossible compares G10 to G12 with their rules, and is P7.3 for witnesses and what is forced.
func TestPossible(t *testing.T) {
	for _, s := range samples(t) {
		agreeing := s.agreeing()
		possible, e := places.Possible(s.Problem)
		if !sameBools(possible, s.possible(agreeing)) || e != api.OK {
			t.Fatal("Possible", s, possible, e)
		}
		for _, at := range s.everyChoice() {
			has := func(f []int) bool { return f[at[0]] == at[1] }
			k := slices.IndexFunc(agreeing, has)
			f, e := places.Witness(s.Problem, at[0], at[1])
			if k >= 0 != possible[at[0]][at[1]] || k < 0 && (len(f) > 0 || e != api.ErrNone) || k >= 0 && (!slices.Equal(f, agreeing[k]) || e != api.OK) {
				t.Fatal("Witness", s, at, f, e)
			}
		}
		forced, e := places.Forced(s.Problem)
		if len(agreeing) == 0 {
			if len(forced) > 0 || e != api.ErrClash {
				t.Fatal("Forced", s, forced, e)
			}
			continue
		}
		var want []int
		for _, row := range possible {
			at := slices.Index(row, true)
			if slices.Contains(row[at+1:], true) {
				at = -1
			}
			want = append(want, at)
		}
		if !slices.Equal(forced, want) || e != api.OK {
			t.Fatal("Forced", s, forced, e)
		}
	}
}

// TestWhere compares G13 with its rule, and is P7.3 for pieces.
func TestWhere(t *testing.T) {
	seen := map[[2]bool]int{}
	for _, s := range samples(t) {
		agreeing := s.agreeing()
		possible, _ := places.Possible(s.Problem)
		for _, piece := range []int{1, 2, 3, 4, 5, 300, 65535} {
			holds := func(i, k int) bool { return s.Options[i][k].Piece == piece }
			var want []int
			for i, row := range possible {
				for k, is := range row {
					if is && holds(i, k) {
						want = append(want, s.Panes[i])
					}
				}
			}
			without := slices.ContainsFunc(agreeing, func(f []int) bool {
				for i, k := range f {
					if holds(i, k) {
						return false
					}
				}
				return true
			})
			panes, nowhere, e := places.Where(s.Problem, piece)
			if !slices.Equal(panes, slices.Compact(want)) || nowhere != without || e != api.OK {
				t.Fatal(s, piece, panes, nowhere, e)
			}
			seen[[2]bool{len(panes) > 0, nowhere}]++
		}
	}
	if len(seen) < 4 || seen[[2]bool{true, true}] < 100 || seen[[2]bool{true, false}] < 100 {
		t.Error("few", seen)
	}
}

// TestWide checks problems with as many fillings as a problem can have, in many panes, with many rules.
func TestWide(t *testing.T) {
	p := wide()
	if n, e := places.Count(p); n != 65536 || e != api.OK {
		t.Error("Count", n, e)
	}
	last := append(repeated(1, 16), repeated(0, 48)...)
	if f, e := places.Witness(p, 15, 1); !slices.Equal(f, append(repeated(0, 15), append([]int{1}, repeated(0, 48)...)...)) || e != api.OK {
		t.Error("Witness", f, e)
	}
	before := slices.Clone(last)
	before[15] = 0
	if f, e := places.Next(p, before); !slices.Equal(f, last) || e != api.OK {
		t.Error("Next", f, e)
	}
	if f, e := places.Next(p, last); len(f) > 0 || e != api.ErrNone {
		t.Error("Next", f, e)
	}
	hits := slices.Clone(p.Rules[255].Hits)
	p.Rules[255].Hits, p.Rules[255].Count = hits, only(16)
	for i := range 16 {
		hits[i] = []bool{false, true}
	}
	for i := 16; i < 64; i++ {
		hits[i] = []bool{false}
	}
	if f, e := places.First(p); !slices.Equal(f, last) || e != api.OK {
		t.Error("First", f, e)
	}
	if n, e := places.Count(p); n != 1 || e != api.OK {
		t.Error("Count", n, e)
	}
}

// wide is a problem with 65536 fillings of 64 panes, and 256 rules of 16 items that all of them keep.
func wide() api.Problem {
	p := plain(append(repeated(2, 16), repeated(1, 48)...)...)
	var panes []int
	var hits [][]bool
	for i, l := range p.Options {
		panes, hits = append(panes, i), append(hits, []bool{true, false}[:len(l)])
	}
	for k := range 256 {
		p.Rules = append(p.Rules, counts(k/16+1, span(0, 64), panes, hits...))
	}
	return p
}

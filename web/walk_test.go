package web_test

import (
	"slices"
	"testing"

	"leadlight/api"
	"leadlight/web"
)

func TestNextAndWalk(t *testing.T) {
	for _, w := range someWebs() {
		for _, s := range sidesOf(w) {
			next, e := web.Next(w, s)
			if next != wantNext(w, s) || e != api.OK {
				t.Error("Next", w, s, next, e)
			}
			walk, e := web.Walk(w, s)
			if !slices.Equal(walk, wantWalk(w, s)) || e != api.OK {
				t.Error("Walk", w, s, walk, e)
			}
			if n, e := web.Area(w, s); n != wantArea(w, walk) || e != api.OK {
				t.Error("Area", w, s, n, e)
			}
		}
	}
}

func TestWalks(t *testing.T) {
	for _, w := range someWebs() {
		walks, e := web.Walks(w)
		if !slices.EqualFunc(walks, wantWalks(w), slices.Equal[[]api.Side]) || e != api.OK {
			t.Error(w, walks, e)
		}
	}
}

// TestWalkExamples has the chapter's examples, and walks that go back along leads.
func TestWalkExamples(t *testing.T) {
	q := example()
	if s, e := web.Next(q, fwd(1)); s != fwd(2) || e != api.OK {
		t.Error("Next", s, e)
	}
	if s, e := web.Prior(q, fwd(1)); s != back(6) || e != api.OK {
		t.Error("Prior", s, e)
	}
	if l, e := web.Walk(q, fwd(1)); !slices.Equal(l, []api.Side{fwd(1), fwd(2), back(6)}) || e != api.OK {
		t.Error("Walk", l, e)
	}
	for s, want := range map[api.Side]int{fwd(1): 8, fwd(6): 24, back(1): -32} {
		if n, e := web.Area(q, s); n != want || e != api.OK {
			t.Error("Area", s, n, e)
		}
	}
	one := knownWebs()["a lead"]
	if s, e := web.Next(one, back(1)); s != fwd(1) || e != api.OK {
		t.Error("the only side is its own next one", s, e)
	}
	if n, e := web.Area(one, fwd(1)); n != 0 || e != api.OK {
		t.Error("Area of a lead", n, e)
	}
	two := knownWebs()["two leads"]
	if l, e := web.Walks(two); len(l) != 1 || !slices.Equal(l[0], []api.Side{fwd(1), back(1), fwd(2), back(2)}) || e != api.OK {
		t.Error("two leads", l, e)
	}
	if n, e := web.Area(knownWebs()["whole grid"], fwd(3)); n != api.MaxSquare || e != api.OK {
		t.Error("Area of the whole grid", n, e)
	}
	if l, e := web.Walks(api.Web{}); len(l) != 0 || e != api.OK {
		t.Error("nothing", l, e)
	}
}

// TestWalksInverse is the first part of P2.2.
func TestWalksInverse(t *testing.T) {
	for _, w := range someWebs() {
		walks, _ := web.Walks(w)
		all := slices.Concat(walks...)
		for _, s := range sidesOf(w) {
			next, _ := web.Next(w, s)
			if back, e := web.Prior(w, next); back != s || e != api.OK {
				t.Error("Prior of Next", w, s, next, back, e)
			}
			prior, _ := web.Prior(w, s)
			if again, e := web.Next(w, prior); again != s || e != api.OK {
				t.Error("Next of Prior", w, s, prior, again, e)
			}
			if !slices.Contains(all, s) {
				t.Error("in no walk", w, s)
			}
		}
		if len(all) != 2*len(w.Leads) {
			t.Error("sides in two walks", w, walks)
		}
	}
}

// TestWalkAreas is the second part of P2.2.
func TestWalkAreas(t *testing.T) {
	for _, w := range someWebs() {
		walks, _ := web.Walks(w)
		parts, _ := web.Components(w)
		for _, part := range parts {
			sum, outer := 0, 0
			for _, walk := range walks {
				from, _, _ := web.Ends(w, walk[0])
				if !slices.Contains(part, from.ID) {
					continue
				}
				n, _ := web.Area(w, walk[0])
				sum += n
				if n <= 0 {
					outer++
				}
			}
			if want := min(1, len(part)-1); sum != 0 || outer != want {
				t.Error(w, part, sum, outer)
			}
		}
	}
}

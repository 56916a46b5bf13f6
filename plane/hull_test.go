package plane_test

import (
	"slices"
	"testing"

	"leadlight/api"
	"leadlight/plane"
)

func TestHull(t *testing.T) {
	for name, x := range map[string]struct {
		l, want []api.Point
		e       api.Errno
	}{
		"example":        {notched(), square(4), api.OK},
		"no order":       {pts(4, 4, 1, 1, 0, 0, 2, 2, 0, 4, 4, 0), square(4), api.OK},
		"repeated":       {pts(4, 0, 0, 0, 4, 0, 0, 0, 0, 4, 0, 4), pts(0, 0, 4, 0, 0, 4), api.OK},
		"points on edge": {around(3), square(3), api.OK},
		"nothing":        {nil, nil, api.ErrFlat},
		"one point":      {pts(3, 3), nil, api.ErrFlat},
		"two points":     {pts(1, 1, 3, 3), nil, api.ErrFlat},
		"one line":       {pts(1, 1, 3, 3, 2, 2, 1, 1), nil, api.ErrFlat},
		"one place":      {pts(4, 4, 4, 4, 4, 4), nil, api.ErrFlat},
		"24 corners":     {bowl(24), bowl(24), api.OK},
		"25 corners":     {bowl(25), nil, api.ErrLimit},
		"25 points":      {append(bowl(24), at(12, 200)), bowl(24), api.OK},
		"400 points":     {around(100), square(100), api.OK},
		"401 points":     {append(around(100), at(0, 0)), nil, api.ErrArg},
		"401 on a line":  {make([]api.Point, 401), nil, api.ErrArg},
		"400 on a line":  {make([]api.Point, 400), nil, api.ErrFlat},
	} {
		l, e := plane.Hull(x.l)
		if e != x.e || !slices.Equal(l, x.want) {
			t.Error(name, l, e)
		}
	}
	for _, bad := range badPoints() {
		for _, l := range [][]api.Point{{bad}, {at(0, 0), bad, at(4, 4)}, append(square(4), bad), append(bowl(30), bad)} {
			if h, e := plane.Hull(l); len(h) > 0 || e != api.ErrArg {
				t.Error("bad point", l, h, e)
			}
		}
	}
}

// TestHullAll compares with all lines through two points that have all other points to the left, and is P1.3 for Hull.
func TestHullAll(t *testing.T) {
	all := someOutlines()
	for n := 3; n <= 5; n++ {
		all = append(all, lists(grid(3), n)...)
	}
	for _, l := range all {
		want := supported(l)
		h, e := plane.Hull(l)
		if len(want) == 0 {
			if len(h) > 0 || e != api.ErrFlat {
				t.Fatal("flat", l, h, e)
			}
			continue
		}
		if !slices.Equal(h, want) || e != api.OK || !plane.ValidOutline(h) {
			t.Fatal(l, h, want, e)
		}
		if o, e := plane.Outline(h); !slices.Equal(o, h) || e != api.OK {
			t.Fatal("not normal", h, o, e)
		}
	}
}

// supported returns the hull of points: from the least one on, always the point with all others to the left, the farthest of these. Nothing, if the points lie on one line.
func supported(l []api.Point) []api.Point {
	start := l[0]
	bent := false
	for _, p := range l {
		if p.X < start.X || p.X == start.X && p.Y < start.Y {
			start = p
		}
		for _, q := range l {
			bent = bent || cross(l[0], p, q) != 0
		}
	}
	if !bent {
		return nil
	}
	out := []api.Point{start}
	for p := start; ; {
		next := p
		for _, q := range l {
			if c := cross(p, next, q); c < 0 || c == 0 && distance(p, q) > distance(p, next) || next == p {
				next = q
			}
		}
		if next == start {
			return out
		}
		out = append(out, next)
		p = next
	}
}

func TestPockets(t *testing.T) {
	for name, x := range map[string]struct {
		l    []api.Point
		want []api.Pocket
	}{
		"example": {notched(), []api.Pocket{{From: 2, To: 4, Area: 12}}},
		"none":    {square(4), nil},
		"last":    {pts(0, 0, 4, 0, 4, 4, 0, 4, 1, 2), []api.Pocket{{From: 3, To: 0, Area: 4}}},
		"first":   {pts(0, 0, 2, 1, 4, 0, 4, 4, 0, 4), []api.Pocket{{From: 0, To: 2, Area: 4}}},
		"all":     {pts(0, 0, 3, 1, 6, 0, 5, 3, 6, 6, 3, 5, 0, 6, 1, 3), []api.Pocket{{From: 0, To: 2, Area: 6}, {From: 2, To: 4, Area: 6}, {From: 4, To: 6, Area: 6}, {From: 6, To: 0, Area: 6}}},
		"teeth":   {comb(3), []api.Pocket{{From: 2, To: 11, Area: 32}}},
		"deep":    {pts(0, 0, 5, 0, 5, 5, 4, 5, 4, 1, 1, 1, 1, 5, 0, 5), []api.Pocket{{From: 2, To: 7, Area: 24}}},
	} {
		l, e := plane.Pockets(x.l)
		if e != api.OK || !slices.Equal(l, x.want) {
			t.Error(name, l, e)
		}
	}
}

// TestAreas is P1.4 for the hull and its pockets.
func TestAreas(t *testing.T) {
	for _, l := range someOutlines() {
		hull, _ := plane.Hull(l)
		pockets, e := plane.Pockets(l)
		if e != api.OK {
			t.Fatal(l, e)
		}
		sum := area(t, l)
		for k, p := range pockets {
			sum += p.Area
			if p.Area <= 0 || k > 0 && p.From <= pockets[k-1].From || p.To == (p.From+1)%len(l) {
				t.Fatal("pocket", l, pockets)
			}
			if i := slices.Index(hull, l[p.From]); i < 0 || hull[(i+1)%len(hull)] != l[p.To] {
				t.Fatal("no hull edge", l, pockets)
			}
		}
		if sum != area(t, hull) {
			t.Fatal("areas", l, pockets)
		}
		if bends, _ := plane.Bends(l); !slices.Contains(bends, -1) && (!slices.Equal(hull, l) || len(pockets) > 0) {
			t.Fatal("own hull", l, hull, pockets)
		}
	}
}

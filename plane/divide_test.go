package plane_test

import (
	"math"
	"slices"
	"testing"

	"leadlight/api"
	"leadlight/plane"
)

func TestTriangles(t *testing.T) {
	for name, x := range map[string]struct {
		l    []api.Point
		want []api.Triangle
	}{
		"example":  {notched(), []api.Triangle{{A: 1, B: 2, C: 3}, {A: 0, B: 1, C: 3}, {A: 0, B: 3, C: 4}}},
		"triangle": {pts(0, 0, 4, 0, 0, 4), []api.Triangle{{A: 0, B: 1, C: 2}}},
		"square":   {square(4), []api.Triangle{{A: 0, B: 1, C: 3}, {A: 1, B: 2, C: 3}}},
		// The corner 3 lies on the segment of the corners 5 and 1, so the corner 0 is no ear at first.
		"in the way": {pts(0, 0, 4, 0, 5, 4, 2, 2, 4, 5, 0, 4), []api.Triangle{{A: 0, B: 1, C: 2}, {A: 0, B: 2, C: 3}, {A: 0, B: 3, C: 5}, {A: 3, B: 4, C: 5}}},
		// After the first cut the corner 1 goes straight on, and is no ear.
		"straight": {pts(0, 0, 2, 2, 4, 0, 4, 4, 0, 4), []api.Triangle{{A: 0, B: 1, C: 4}, {A: 1, B: 2, C: 3}, {A: 1, B: 3, C: 4}}},
	} {
		l, e := plane.Triangles(x.l)
		if e != api.OK || !slices.Equal(l, x.want) {
			t.Error(name, l, e)
		}
	}
}

// TestTrianglesAll compares with the rule, word by word, and is P1.4 for triangles.
func TestTrianglesAll(t *testing.T) {
	for _, l := range someOutlines() {
		got, e := plane.Triangles(l)
		if e != api.OK || !slices.Equal(got, earsByTheRule(l)) {
			t.Fatal(l, got, e)
		}
		sum := 0
		for _, x := range got {
			if x.A >= x.B || x.B >= x.C {
				t.Fatal("order", l, x)
			}
			sum += cross(l[x.A], l[x.B], l[x.C])
		}
		if len(got) != len(l)-2 || sum != area(t, l) {
			t.Fatal("areas", l, got)
		}
	}
}

// earsByTheRule is rule A14 for outlines.
func earsByTheRule(l []api.Point) []api.Triangle {
	var left []int
	for k := range l {
		left = append(left, k)
	}
	var out []api.Triangle
	for len(left) > 3 {
		k := 0
		for !earByTheRule(l, left, k) {
			k++
		}
		n := len(left)
		three := []int{left[(k+n-1)%n], left[k], left[(k+1)%n]}
		slices.Sort(three)
		out = append(out, api.Triangle{A: three[0], B: three[1], C: three[2]})
		left = slices.Delete(left, k, k+1)
	}
	return append(out, api.Triangle{A: left[0], B: left[1], C: left[2]})
}

func earByTheRule(l []api.Point, left []int, k int) bool {
	n := len(left)
	before, own, after := left[(k+n-1)%n], left[k], left[(k+1)%n]
	a, b, c := l[before], l[own], l[after]
	if cross(a, b, c) <= 0 {
		return false
	}
	for _, i := range left {
		p := l[i]
		whole := abs(cross(a, b, p)) + abs(cross(b, c, p)) + abs(cross(c, a, p))
		if i != before && i != own && i != after && whole == cross(a, b, c) {
			return false
		}
	}
	return true
}

func TestSplit(t *testing.T) {
	bump := pts(0, 2, 2, 0, 4, 2, 6, 2, 6, 4, 4, 4, 4, 6, 0, 6)
	for name, x := range map[string]struct {
		l    []api.Point
		i, k int
		a, b []api.Point
		e    api.Errno
	}{
		"example":            {notched(), 0, 3, pts(0, 0, 4, 0, 4, 4, 2, 1), pts(0, 0, 2, 1, 0, 4), api.OK},
		"other corner":       {notched(), 1, 3, pts(2, 1, 4, 0, 4, 4), pts(0, 0, 4, 0, 2, 1, 0, 4), api.OK},
		"across the pocket":  {notched(), 2, 4, nil, nil, api.ErrDiagonal},
		"crossing":           {notched(), 0, 2, nil, nil, api.ErrDiagonal},
		"neighbours":         {notched(), 0, 1, nil, nil, api.ErrDiagonal},
		"last neighbours":    {notched(), 3, 4, nil, nil, api.ErrDiagonal},
		"neighbours around":  {notched(), 0, 4, nil, nil, api.ErrDiagonal},
		"triangle":           {pts(0, 0, 4, 0, 0, 4), 0, 2, nil, nil, api.ErrDiagonal},
		"same":               {notched(), 3, 3, nil, nil, api.ErrArg},
		"other way":          {notched(), 3, 0, nil, nil, api.ErrArg},
		"below":              {notched(), -1, 3, nil, nil, api.ErrArg},
		"above":              {notched(), 0, 5, nil, nil, api.ErrArg},
		"far below":          {notched(), math.MinInt, 3, nil, nil, api.ErrArg},
		"far above":          {notched(), 0, math.MaxInt, nil, nil, api.ErrArg},
		"square":             {square(4), 0, 2, pts(0, 0, 4, 0, 4, 4), pts(0, 0, 4, 4, 0, 4), api.OK},
		"other square":       {square(3), 1, 3, pts(0, 3, 3, 0, 3, 3), pts(0, 0, 3, 0, 0, 3), api.OK},
		"straight at a":      {bump, 2, 5, pts(4, 2, 6, 2, 6, 4, 4, 4), pts(0, 2, 2, 0, 4, 2, 4, 6, 0, 6), api.OK},
		"straight at b":      {bump, 0, 2, pts(0, 2, 2, 0, 4, 2), pts(0, 2, 6, 2, 6, 4, 4, 4, 4, 6, 0, 6), api.OK},
		"along an edge":      {bump, 0, 3, nil, nil, api.ErrDiagonal},
		"along the other":    {bump, 2, 6, nil, nil, api.ErrDiagonal},
		"through a corner":   {pts(0, 0, 4, 0, 4, 4, 0, 4, 2, 2), 1, 3, nil, nil, api.ErrDiagonal},
		"to that corner":     {pts(0, 0, 4, 0, 4, 4, 0, 4, 2, 2), 1, 4, pts(0, 4, 4, 0, 4, 4), pts(0, 0, 4, 0, 2, 2), api.OK},
		"outside, no corner": {pts(0, 0, 6, 0, 6, 6, 5, 6, 5, 1, 0, 1), 3, 5, nil, nil, api.ErrDiagonal},
		"touched from aside": {pts(0, 0, 2, 1, 4, 0, 4, 3, 2, 2, 0, 3), 1, 4, pts(2, 1, 4, 0, 4, 3, 2, 2), pts(0, 0, 2, 1, 2, 2, 0, 3), api.OK},
	} {
		a, b, e := plane.Split(x.l, x.i, x.k)
		if e != x.e || !slices.Equal(a, x.a) || !slices.Equal(b, x.b) {
			t.Error(name, a, b, e)
		}
	}
}

// TestSplitAll compares with the rule, and is P1.4 for Split.
func TestSplitAll(t *testing.T) {
	for _, l := range someOutlines() {
		n := len(l)
		for k := range n {
			for i := range k {
				a, b, e := plane.Split(l, i, k)
				if neighbours := k == i+1 || i == 0 && k == n-1; !divides(l, i, k) || neighbours {
					if len(a) > 0 || len(b) > 0 || e != api.ErrDiagonal {
						t.Fatal("no diagonal", l, i, k, a, b, e)
					}
					continue
				}
				wantA, _ := plane.Outline(l[i : k+1])
				wantB, _ := plane.Outline(slices.Concat(l[k:], l[:i+1]))
				if e != api.OK || !slices.Equal(a, wantA) || !slices.Equal(b, wantB) {
					t.Fatal("parts", l, i, k, a, b, e)
				}
				if area(t, a)+area(t, b) != area(t, l) {
					t.Fatal("areas", l, i, k, a, b)
				}
			}
		}
	}
}

// divides reports whether the segment of the corners i and k meets the border of l in these only, and has its middle inside.
func divides(l []api.Point, i, k int) bool {
	n := len(l)
	for e, p := range l {
		q := l[(e+1)%n]
		if e != i && e != k && on(p, l[i], l[k]) {
			return false
		}
		how, _ := plane.Meet(l[i], l[k], p, q)
		if how == api.MeetCross || how == api.MeetOverlap {
			return false
		}
		if away := p != l[i] && p != l[k] && q != l[i] && q != l[k]; away && how != api.MeetNone {
			return false
		}
	}
	var big []api.Point
	for _, p := range l {
		big = append(big, at(2*p.X, 2*p.Y))
	}
	return seen(big, at(l[i].X+l[k].X, l[i].Y+l[k].Y)) == api.Inside
}

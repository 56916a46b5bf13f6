package plane_test

import (
	"math"
	"slices"
	"testing"

	"leadlight/api"
	"leadlight/plane"
)

// settings returns all settings for n edges.
func settings(n int) []api.Setting {
	var out []api.Setting
	for k := range n {
		out = append(out, api.Setting{Shift: k}, api.Setting{Shift: k, Back: true})
	}
	return out
}

func TestValidSetting(t *testing.T) {
	for n := 3; n <= 24; n++ {
		for _, s := range settings(n) {
			if !plane.ValidSetting(s, n) {
				t.Error("valid", s, n)
			}
		}
	}
	for _, x := range badSettings() {
		if plane.ValidSetting(x.s, x.n) {
			t.Error("not valid", x)
		}
	}
}

type forEdges struct {
	s api.Setting
	n int
}

// badSettings are settings that are not valid for a number of edges.
func badSettings() []forEdges {
	var out []forEdges
	for _, back := range []bool{false, true} {
		for _, n := range []int{2, 1, 0, -1, 25, math.MinInt, math.MaxInt} {
			out = append(out, forEdges{api.Setting{Back: back}, n}, forEdges{api.Setting{Shift: 1, Back: back}, n})
		}
		for _, shift := range []int{-1, 5, 6, math.MinInt, math.MaxInt} {
			out = append(out, forEdges{api.Setting{Shift: shift, Back: back}, 5})
		}
		out = append(out, forEdges{api.Setting{Shift: 3, Back: back}, 3}, forEdges{api.Setting{Shift: 24, Back: back}, 24})
	}
	return out
}

func TestSettingsArg(t *testing.T) {
	for _, x := range badSettings() {
		if s, e := plane.Compose(x.s, api.Setting{}, x.n); s != (api.Setting{}) || e != api.ErrArg {
			t.Error("Compose", x, s, e)
		}
		if s, e := plane.Compose(api.Setting{}, x.s, x.n); s != (api.Setting{}) || e != api.ErrArg {
			t.Error("Compose", x, s, e)
		}
		if s, e := plane.Inverse(x.s, x.n); s != (api.Setting{}) || e != api.ErrArg {
			t.Error("Inverse", x, s, e)
		}
		if k, e := plane.Edge(x.s, x.n, 0); k != 0 || e != api.ErrArg {
			t.Error("Edge", x, k, e)
		}
	}
	for _, i := range []int{-1, 5, 6, math.MinInt, math.MaxInt} {
		for _, s := range settings(5) {
			if k, e := plane.Edge(s, 5, i); k != 0 || e != api.ErrArg {
				t.Error("Edge", s, i, k, e)
			}
		}
	}
}

func TestEdge(t *testing.T) {
	for _, x := range []struct {
		s       api.Setting
		n, i, k int
	}{{api.Setting{}, 3, 2, 2}, {api.Setting{Shift: 1}, 5, 4, 0}, {api.Setting{Shift: 2, Back: true}, 5, 4, 3}, {api.Setting{Shift: 2, Back: true}, 5, 2, 0}, {api.Setting{Back: true}, 24, 23, 1}, {api.Setting{Shift: 23}, 24, 23, 22}} {
		if k, e := plane.Edge(x.s, x.n, x.i); k != x.k || e != api.OK {
			t.Error(x, k, e)
		}
	}
}

func TestCompose(t *testing.T) {
	a, b := api.Setting{Shift: 1}, api.Setting{Shift: 2, Back: true}
	for _, x := range []struct{ s, t, want api.Setting }{
		{a, b, api.Setting{Shift: 1, Back: true}}, {b, a, api.Setting{Shift: 3, Back: true}}, {a, a, api.Setting{Shift: 2}}, {b, b, api.Setting{}}, {api.Setting{Shift: 4}, a, api.Setting{}},
	} {
		if s, e := plane.Compose(x.s, x.t, 5); s != x.want || e != api.OK {
			t.Error(x, s, e)
		}
	}
	for _, x := range []struct{ s, want api.Setting }{{a, api.Setting{Shift: 4}}, {b, b}, {api.Setting{}, api.Setting{}}, {api.Setting{Back: true}, api.Setting{Back: true}}} {
		if s, e := plane.Inverse(x.s, 5); s != x.want || e != api.OK {
			t.Error(x, s, e)
		}
	}
}

// TestGroup is P1.7 for all settings for n edges.
func TestGroup(t *testing.T) {
	for _, n := range []int{3, 4, 5, 6, 7, 12, 24} {
		all := settings(n)
		compose := func(s, r api.Setting) api.Setting {
			got, e := plane.Compose(s, r, n)
			if e != api.OK || !plane.ValidSetting(got, n) {
				t.Fatal(n, s, r, got, e)
			}
			return got
		}
		for _, s := range all {
			inverse, e := plane.Inverse(s, n)
			if unit := (api.Setting{}); compose(s, unit) != s || compose(unit, s) != s || compose(s, inverse) != unit || compose(inverse, s) != unit || e != api.OK {
				t.Fatal(n, s, inverse, e)
			}
			for _, r := range all {
				checkEdges(t, s, r, compose(s, r), n)
				for _, q := range all {
					if compose(compose(s, r), q) != compose(s, compose(r, q)) {
						t.Fatal("not associative", n, s, r, q)
					}
				}
			}
		}
	}
}

// checkEdges checks that both lays each edge where r lays the edge on which s lays it.
func checkEdges(t *testing.T, s, r, both api.Setting, n int) {
	t.Helper()
	for i := range n {
		k, e1 := plane.Edge(s, n, i)
		j, e2 := plane.Edge(r, n, k)
		once, e3 := plane.Edge(both, n, i)
		if once != j || e1 != api.OK || e2 != api.OK || e3 != api.OK {
			t.Fatal(n, i, s, r, both)
		}
	}
}

func TestSettings(t *testing.T) {
	none, back := api.Setting{}, api.Setting{Back: true}
	kite := pts(0, 3, 3, 0, 9, 3, 3, 6)
	for name, x := range map[string]struct {
		p, q []api.Point
		want []api.Setting
	}{
		"square":         {square(2), square(2), settings(4)},
		"example":        {notched(), notched(), []api.Setting{none, back}},
		"scalene":        {pts(0, 0, 4, 0, 1, 2), pts(0, 0, 4, 0, 1, 2), []api.Setting{none}},
		"turned over":    {pts(0, 0, 4, 0, 1, 2), pts(0, 0, 4, 0, 3, 2), []api.Setting{back}},
		"rectangle":      {pts(0, 0, 4, 0, 4, 2, 0, 2), pts(5, 5, 7, 5, 7, 9, 5, 9), []api.Setting{{Shift: 1}, {Shift: 1, Back: true}, {Shift: 3}, {Shift: 3, Back: true}}},
		"oblique square": {square(5), pts(0, 3, 4, 0, 7, 4, 3, 7), settings(4)},
		"rhombus":        {pts(0, 0, 5, 0, 8, 4, 3, 4), pts(0, 0, 5, 0, 8, 4, 3, 4), []api.Setting{none, {Shift: 1, Back: true}, {Shift: 2}, {Shift: 3, Back: true}}},
		"square, not":    {pts(0, 0, 5, 0, 8, 4, 3, 4), square(5), nil},
		"kite":           {kite, kite, []api.Setting{none, {Shift: 3, Back: true}}},
		"other size":     {square(2), square(3), nil},
		"other number":   {square(2), pts(0, 0, 2, 0, 2, 2), nil},
		"more corners":   {pts(0, 0, 2, 0, 2, 2), square(2), nil},
		"bent otherwise": {pts(0, 2, 3, 0, 2, 2, 3, 4), pts(0, 2, 3, 0, 4, 2, 3, 4), nil},
		"parallelograms": {pts(0, 0, 4, 0, 5, 2, 1, 2), pts(0, 0, 4, 0, 5, 2, 1, 2), []api.Setting{none, {Shift: 2}}},
		"cross":          {plus(0), plus(7), eight()},
	} {
		l, e := plane.Settings(x.p, x.q)
		if !slices.Equal(l, x.want) || e != api.OK {
			t.Error(name, l, e)
		}
	}
}

// plus is a cross of five squares, moved to the right.
func plus(by int) []api.Point {
	l := pts(0, 1, 1, 1, 1, 0, 2, 0, 2, 1, 3, 1, 3, 2, 2, 2, 2, 3, 1, 3, 1, 2, 0, 2)
	for k := range l {
		l[k].X += by
	}
	return l
}

// eight are the settings by which the cross lies in itself.
func eight() []api.Setting {
	var out []api.Setting
	for k := range 12 {
		switch k % 3 {
		case 0:
			out = append(out, api.Setting{Shift: k})
		case 1:
			out = append(out, api.Setting{Shift: k, Back: true})
		}
	}
	return out
}

// TestSettingsAll compares with the chapter's definition.
func TestSettingsAll(t *testing.T) {
	small := smallOutlines()
	for _, p := range small {
		for _, q := range small {
			var want []api.Setting
			for _, s := range settings(len(p)) {
				if len(p) == len(q) && lies(p, q, s) {
					want = append(want, s)
				}
			}
			if got, e := plane.Settings(p, q); !slices.Equal(got, want) || e != api.OK {
				t.Fatal(p, q, got, want, e)
			}
		}
	}
}

// lies reports whether p and q are congruent by s: edges, bends and distances.
func lies(p, q []api.Point, s api.Setting) bool {
	n := len(p)
	bendsP, _ := plane.Bends(p)
	bendsQ, _ := plane.Bends(q)
	corner := func(i int) int {
		if s.Back {
			return (s.Shift - i + 1 + n) % n
		}
		return (s.Shift + i) % n
	}
	for i := range n {
		k, _ := plane.Edge(s, n, i)
		if distance(p[i], p[(i+1)%n]) != distance(q[k], q[(k+1)%n]) || bendsP[i] != bendsQ[corner(i)] {
			return false
		}
		for j := range n {
			if distance(p[i], p[j]) != distance(q[corner(i)], q[corner(j)]) {
				return false
			}
		}
	}
	return true
}

// TestCongruence is P1.7 for the settings of outlines.
func TestCongruence(t *testing.T) {
	classes := [][][]api.Point{{square(5), pts(0, 3, 4, 0, 7, 4, 3, 7), pts(1, 5, 4, 1, 8, 4, 5, 8)}, {plus(0), plus(3)}, {pts(0, 0, 4, 0, 1, 2), pts(0, 0, 4, 0, 3, 2), pts(0, 0, 2, 1, 0, 4)}, smallOutlines()[:60]}
	for _, class := range classes {
		for _, p := range class {
			for _, q := range class {
				for _, r := range class {
					checkCongruence(t, p, q, r)
				}
			}
		}
	}
}

func checkCongruence(t *testing.T, p, q, r []api.Point) {
	t.Helper()
	pq, _ := plane.Settings(p, q)
	qr, _ := plane.Settings(q, r)
	pr, _ := plane.Settings(p, r)
	qp, _ := plane.Settings(q, p)
	for _, s := range pq {
		if back, _ := plane.Inverse(s, len(p)); !slices.Contains(qp, back) {
			t.Fatal("inverse", p, q, s)
		}
		for _, u := range qr {
			if both, _ := plane.Compose(s, u, len(p)); !slices.Contains(pr, both) {
				t.Fatal("composed", p, q, r, s, u)
			}
		}
	}
	if own, _ := plane.Settings(p, p); !slices.Contains(own, api.Setting{}) {
		t.Fatal("unit", p)
	}
}

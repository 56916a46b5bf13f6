package glass_test

import (
	"math/rand"
	"slices"
	"testing"

	"leadlight/api"
	"leadlight/glass"
	"leadlight/plane"
)

func TestGauges(t *testing.T) {
	for name, x := range map[string]struct {
		l    []api.Point
		want []api.Gauge
	}{
		"example":  {box(), example().Gauges},
		"notched":  {notched(), []api.Gauge{{Edge: only(16), Across: only(32), Bend: 1}, {Edge: only(16), Across: only(5), Bend: 1}, {Edge: only(13), Across: only(16), Bend: -1}, {Edge: only(13), Across: only(5), Bend: 1}, {Edge: only(16), Across: only(32), Bend: 1}}},
		"triangle": {pts(0, 0, 4, 0, 1, 2), []api.Gauge{{Edge: only(16), Across: only(5), Bend: 1}, {Edge: only(13), Across: only(16), Bend: 1}, {Edge: only(5), Across: only(13), Bend: 1}}},
		"largest":  {pts(0, 0, 4096, 0, 4096, 4096), []api.Gauge{{Edge: only(16777216), Across: only(33554432), Bend: 1}, {Edge: only(16777216), Across: only(16777216), Bend: 1}, {Edge: only(33554432), Across: only(16777216), Bend: 1}}},
		"smallest": {pts(0, 0, 1, 0, 1, 1, 0, 1), slices.Repeat([]api.Gauge{{Edge: only(1), Across: only(2), Bend: 1}}, 4)},
	} {
		if g, e := glass.Gauges(x.l); !slices.Equal(g, x.want) || e != api.OK {
			t.Error(name, g, e)
		}
	}
	for _, l := range outlines() {
		g, e := glass.Gauges(l)
		if len(g) != len(l) || e != api.OK {
			t.Fatal(l, g, e)
		}
		for i := range l {
			edge, across, bend := measuresByRule(l, i)
			if g[i] != (api.Gauge{Edge: only(edge), Across: only(across), Bend: bend}) {
				t.Fatal(l, i, g[i])
			}
		}
	}
}

// square is the squared distance of the corners i and k of an outline.
func square(l []api.Point, i, k int) int {
	a, b := l[mod(i, len(l))], l[mod(k, len(l))]
	return (a.X-b.X)*(a.X-b.X) + (a.Y-b.Y)*(a.Y-b.Y)
}

// bend is 1 or -1, as the corner i of an outline bends to the left or to the right.
func bend(l []api.Point, i int) int {
	a, b, c := l[mod(i-1, len(l))], l[mod(i, len(l))], l[mod(i+1, len(l))]
	if (b.X-a.X)*(c.Y-a.Y)-(b.Y-a.Y)*(c.X-a.X) > 0 {
		return 1
	}
	return -1
}

// measuresByRule are the measures of an outline at its edge i.
func measuresByRule(l []api.Point, i int) (edge, across, turn int) {
	return square(l, i, i+1), square(l, i, i+2), bend(l, i+1)
}

// fitsByRule is the chapter's definition of how a piece fits an outline.
func fitsByRule(p api.Piece, l []api.Point, s api.Setting) bool {
	if len(l) != len(p.Gauges) {
		return false
	}
	for i, g := range p.Gauges {
		edge, across, turn := measuresByRule(l, s.Shift+i)
		if s.Back {
			k := s.Shift - i
			edge, across, turn = square(l, k, k+1), square(l, k-1, k+1), bend(l, k)
		}
		if !in(edge, g.Edge) || !in(across, g.Across) || g.Bend != 0 && g.Bend != turn {
			return false
		}
	}
	return true
}

func TestSettings(t *testing.T) {
	square, rhombus := pts(0, 0, 2, 0, 2, 2, 0, 2), pts(0, 0, 5, 0, 8, 4, 3, 4)
	anyBend := exact(t, notched())
	for k := range anyBend.Gauges {
		anyBend.Gauges[k].Bend = 0
	}
	for name, x := range map[string]struct {
		p    api.Piece
		l    []api.Point
		want []api.Setting
	}{
		"example":        {example(), box(), []api.Setting{turned(0), over(0), turned(2), over(2)}},
		"square":         {exact(t, square), square, allSettings(4)},
		"triangle":       {exact(t, pts(0, 0, 4, 0, 1, 2)), pts(0, 0, 4, 0, 1, 2), []api.Setting{turned(0)}},
		"turned over":    {exact(t, pts(0, 0, 4, 0, 1, 2)), pts(0, 0, 4, 0, 3, 2), []api.Setting{over(0)}},
		"notched":        {exact(t, notched()), notched(), []api.Setting{turned(0), over(0)}},
		"any bend":       {anyBend, notched(), []api.Setting{turned(0), over(0)}},
		"rhombus":        {exact(t, rhombus), rhombus, []api.Setting{turned(0), over(1), turned(2), over(3)}},
		"other diagonal": {exact(t, rhombus), pts(0, 0, 5, 0, 5, 5, 0, 5), nil},
		"other edge":     {exact(t, box()), pts(0, 0, 5, 0, 5, 2, 0, 2), nil},
		"other bend":     {exact(t, pts(0, 2, 3, 0, 2, 2, 3, 4)), pts(0, 2, 3, 0, 4, 2, 3, 4), nil},
		"other number":   {exact(t, square), pts(0, 0, 2, 0, 2, 2), nil},
		"more corners":   {exact(t, pts(0, 0, 2, 0, 2, 2)), square, nil},
	} {
		if l, e := glass.Settings(x.p, x.l); !slices.Equal(l, x.want) || e != api.OK {
			t.Error(name, l, e)
		}
	}
}

// TestSettingsBounds moves each bound of a gauge just inside and just outside of the measures.
func TestSettingsBounds(t *testing.T) {
	l := pts(0, 0, 4, 0, 5, 2, 1, 3)
	for i := range l {
		for _, x := range []struct {
			edge, across api.Span
			bend         int
			want         bool
		}{
			{span(-1, 1), span(-1, 1), 0, true}, {span(0, 0), span(0, 0), 1, true}, {span(0, 5), span(0, 5), 1, true}, {span(-2, 0), span(-2, 0), 0, true},
			{span(1, 5), span(0, 0), 1, false}, {span(-2, -1), span(0, 0), 1, false}, {span(0, 0), span(1, 5), 1, false}, {span(0, 0), span(-2, -1), 1, false}, {span(0, 0), span(0, 0), -1, false},
		} {
			p := exact(t, l)
			g := &p.Gauges[i]
			edge, across := g.Edge.Lo, g.Across.Lo
			*g = api.Gauge{Edge: span(edge+x.edge.Lo, edge+x.edge.Hi), Across: span(across+x.across.Lo, across+x.across.Hi), Bend: x.bend}
			if ok, e := glass.Fits(p, l, api.Setting{}); ok != x.want || e != api.OK {
				t.Error(i, x, ok, e)
			}
		}
	}
}

// TestFitsAll compares with the definition.
func TestFitsAll(t *testing.T) {
	all := outlines()
	fit := 0
	for _, p := range pieces(t) {
		for _, l := range all {
			var want []api.Setting
			for _, s := range allSettings(len(p.Gauges)) {
				ok, e := glass.Fits(p, l, s)
				if ok != fitsByRule(p, l, s) || e != api.OK {
					t.Fatal(p, l, s, ok, e)
				}
				if ok {
					want = append(want, s)
				}
			}
			if got, e := glass.Settings(p, l); !slices.Equal(got, want) || e != api.OK {
				t.Fatal(p, l, got, want, e)
			}
			fit += len(want)
		}
	}
	if fit < 500 {
		t.Error("few pieces fit:", fit)
	}
}

// TestExact is P3.2.
func TestExact(t *testing.T) {
	all := outlines()
	for _, p := range all {
		piece := exact(t, p)
		for _, q := range all {
			got, e := glass.Settings(piece, q)
			if e != api.OK {
				t.Fatal(p, q, e)
			}
			for _, s := range allSettings(len(p)) {
				if slices.Contains(got, s) != nearlyCongruent(p, q, s) {
					t.Fatal("as far as gauges tell", p, q, s)
				}
			}
			congruent, _ := plane.Settings(p, q)
			for _, s := range congruent {
				if !slices.Contains(got, s) {
					t.Fatal("congruent", p, q, s)
				}
			}
		}
	}
}

// nearlyCongruent reports whether p and q are congruent by s as far as edges, diagonals to the next but one corner, and bends tell.
func nearlyCongruent(p, q []api.Point, s api.Setting) bool {
	if len(p) != len(q) {
		return false
	}
	on := func(i int) int {
		if s.Back {
			return s.Shift - i + 1
		}
		return s.Shift + i
	}
	for i := range p {
		if square(p, i, i+1) != square(q, on(i), on(i+1)) || square(p, i, i+2) != square(q, on(i), on(i+2)) || bend(p, i) != bend(q, on(i)) {
			return false
		}
	}
	return true
}

func TestWiden(t *testing.T) {
	gauge := func(a, b, c, d, bend int) api.Gauge {
		return api.Gauge{Edge: span(a, b), Across: span(c, d), Bend: bend}
	}
	g := []api.Gauge{gauge(5, 7, 5, 7, 1), gauge(1, 1, 0, 0, -1), gauge(33554432, 33554432, 33554432, 33554432, 0)}
	for by, want := range map[int][]api.Gauge{
		0:        g,
		1:        {gauge(4, 8, 4, 8, 1), gauge(1, 2, 0, 1, -1), gauge(33554431, 33554432, 33554431, 33554432, 0)},
		4:        {gauge(1, 11, 1, 11, 1), gauge(1, 5, 0, 4, -1), gauge(33554428, 33554432, 33554428, 33554432, 0)},
		5:        {gauge(1, 12, 0, 12, 1), gauge(1, 6, 0, 5, -1), gauge(33554427, 33554432, 33554427, 33554432, 0)},
		33554431: {gauge(1, 33554432, 0, 33554432, 1), gauge(1, 33554432, 0, 33554431, -1), gauge(1, 33554432, 1, 33554432, 0)},
		33554432: {gauge(1, 33554432, 0, 33554432, 1), gauge(1, 33554432, 0, 33554432, -1), gauge(1, 33554432, 0, 33554432, 0)},
	} {
		if l, e := glass.Widen(g, by); !slices.Equal(l, want) || e != api.OK {
			t.Error(by, l, e)
		}
	}
	for _, by := range append(extremes(), -1, 33554433) {
		l, e := glass.Widen(g, by)
		wantError(t, "by", e, api.ErrArg, len(l) == 0)
	}
	for _, bad := range badGauges() {
		for k := range g {
			wrong := slices.Clone(g)
			wrong[k] = bad
			l, e := glass.Widen(wrong, 1)
			wantError(t, "bad gauge", e, api.ErrArg, len(l) == 0)
		}
	}
	for _, n := range []int{0, 1, 2, 25, 100} {
		l, e := glass.Widen(slices.Repeat(g[:1], n), 1)
		wantError(t, "number", e, api.ErrArg, len(l) == 0)
	}
	for _, n := range []int{3, 24} {
		if l, e := glass.Widen(slices.Repeat(g[:1], n), 1); len(l) != n || e != api.OK {
			t.Error(n, l, e)
		}
	}
}

// TestWider is P3.3.
func TestWider(t *testing.T) {
	r := rand.New(rand.NewSource(33))
	all := outlines()
	widen := func(g []api.Gauge, by int) []api.Gauge {
		out, e := glass.Widen(g, by)
		if e != api.OK {
			t.Fatal(g, by, e)
		}
		return out
	}
	for _, p := range pieces(t) {
		a, b := r.Intn(50), r.Intn(1<<r.Intn(24))
		wide := copyOf(p)
		wide.Gauges = widen(p.Gauges, a)
		if once := widen(p.Gauges, a+b); !slices.Equal(widen(wide.Gauges, b), once) || !glass.ValidPiece(wide) {
			t.Fatal("twice", p, a, b)
		}
		for _, l := range all {
			narrow, _ := glass.Settings(p, l)
			got, e := glass.Settings(wide, l)
			if e != api.OK {
				t.Fatal(wide, l, e)
			}
			for _, s := range narrow {
				if !slices.Contains(got, s) {
					t.Fatal("wider", p, a, l, s)
				}
			}
		}
	}
	if l := widen(widen(example().Gauges, api.MaxSquare), api.MaxSquare); l[0] != (api.Gauge{Edge: span(1, api.MaxSquare), Across: span(0, api.MaxSquare), Bend: 1}) {
		t.Error("widest", l)
	}
}

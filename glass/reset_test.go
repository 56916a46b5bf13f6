package glass_test

import (
	"math/rand"
	"slices"
	"testing"

	"leadlight/api"
	"leadlight/glass"
	"leadlight/plane"
)

func reset(t *testing.T, p api.Piece, s api.Setting) api.Piece {
	t.Helper()
	out, e := glass.Reset(p, s)
	if e != api.OK {
		t.Fatal("reset", p, s, e)
	}
	return out
}

// resetByRule is the chapter's definition of a piece that is reset.
func resetByRule(p api.Piece, s api.Setting) api.Piece {
	n := len(p.Gauges)
	out := copyOf(p)
	out.Gauges, out.Marks = make([]api.Gauge, n), nil
	on := func(i int) int {
		if s.Back {
			return mod(s.Shift-i, n)
		}
		return mod(s.Shift+i, n)
	}
	for i, g := range p.Gauges {
		if s.Back {
			before := p.Gauges[mod(i-1, n)]
			g.Across, g.Bend = before.Across, before.Bend
		}
		out.Gauges[on(i)] = g
	}
	for _, m := range p.Marks {
		at := m.At
		if s.Back {
			at = 16 - at
		}
		out.Marks = append(out.Marks, mark(on(m.Edge), at, m.Tone))
	}
	slices.SortFunc(out.Marks, byRule)
	if s.Back {
		out.Colour, out.Reverse = p.Reverse, p.Colour
	}
	return out
}

func TestReset(t *testing.T) {
	p := exact(t, pts(0, 0, 4, 0, 1, 2))
	p.Gauges[1].Bend = 0
	p.Marks = []api.Mark{mark(0, 3, 1), mark(0, 3, 5), mark(0, 5, 2), mark(2, 0, 4)}
	first, second, third := p.Gauges[0], p.Gauges[1], p.Gauges[2]
	for s, want := range map[api.Setting]api.Piece{
		turned(0): p,
		turned(1): {Colour: 2, Reverse: 3, Gauges: []api.Gauge{third, first, second}, Marks: []api.Mark{mark(0, 0, 4), mark(1, 3, 1), mark(1, 3, 5), mark(1, 5, 2)}},
		over(0): {Colour: 3, Reverse: 2, Gauges: []api.Gauge{
			{Edge: first.Edge, Across: third.Across, Bend: 1}, {Edge: third.Edge, Across: second.Across}, {Edge: second.Edge, Across: first.Across, Bend: 1},
		}, Marks: []api.Mark{mark(0, 11, 2), mark(0, 13, 1), mark(0, 13, 5), mark(1, 16, 4)}},
		over(1): {Colour: 3, Reverse: 2, Gauges: []api.Gauge{
			{Edge: second.Edge, Across: first.Across, Bend: 1}, {Edge: first.Edge, Across: third.Across, Bend: 1}, {Edge: third.Edge, Across: second.Across},
		}, Marks: []api.Mark{mark(1, 11, 2), mark(1, 13, 1), mark(1, 13, 5), mark(2, 16, 4)}},
	} {
		want.ID, want.Made, want.Swell = p.ID, p.Made, p.Swell
		if got := reset(t, p, s); !samePiece(got, want) {
			t.Error(s, got)
		}
	}
	for _, p := range pieces(t) {
		for _, s := range allSettings(len(p.Gauges)) {
			if got := reset(t, p, s); !samePiece(got, resetByRule(p, s)) || !glass.ValidPiece(got) {
				t.Fatal(p, s, got)
			}
		}
	}
}

func TestMarks(t *testing.T) {
	for s, want := range map[api.Setting][]api.Mark{
		turned(0): {mark(0, 4, 1), mark(1, 16, 2)},
		turned(2): {mark(2, 4, 1), mark(3, 16, 2)},
		turned(3): {mark(0, 16, 2), mark(3, 4, 1)},
		over(0):   {mark(0, 12, 1), mark(3, 0, 2)},
		over(1):   {mark(0, 0, 2), mark(1, 12, 1)},
	} {
		if l, e := glass.Marks(example(), s); !slices.Equal(l, want) || e != api.OK {
			t.Error(s, l, e)
		}
	}
	for _, p := range pieces(t) {
		for _, s := range allSettings(len(p.Gauges)) {
			if l, e := glass.Marks(p, s); !slices.Equal(l, resetByRule(p, s).Marks) || e != api.OK {
				t.Fatal(p, s, l, e)
			}
		}
	}
}

// TestResetting is P3.4.
func TestResetting(t *testing.T) {
	all := outlines()
	for _, p := range pieces(t)[:60] {
		n := len(p.Gauges)
		if !samePiece(reset(t, p, api.Setting{}), p) {
			t.Fatal("unit", p)
		}
		for _, s := range allSettings(n) {
			r := reset(t, p, s)
			inverse, _ := plane.Inverse(s, n)
			if colour, e := glass.Shows(p, s); colour != r.Colour || e != api.OK || !samePiece(reset(t, r, inverse), p) {
				t.Fatal("inverse", p, s, colour, e)
			}
			for _, u := range allSettings(n) {
				both, _ := plane.Compose(s, u, n)
				if !samePiece(reset(t, r, u), reset(t, p, both)) {
					t.Fatal("composed", p, s, u)
				}
			}
			for _, l := range all {
				if len(l) == n {
					checkResetFits(t, p, r, s, l)
				}
			}
		}
	}
}

// checkResetFits checks that r, which is p reset by s, fits l by a setting if and only if p fits it by both.
func checkResetFits(t *testing.T, p, r api.Piece, s api.Setting, l []api.Point) {
	t.Helper()
	n := len(l)
	for _, u := range allSettings(n) {
		both, _ := plane.Compose(s, u, n)
		one, e1 := glass.Fits(r, l, u)
		other, e2 := glass.Fits(p, l, both)
		if one != other || e1 != api.OK || e2 != api.OK {
			t.Fatal("fits", p, s, l, u)
		}
	}
}

// TestMoving is P3.5.
func TestMoving(t *testing.T) {
	r := rand.New(rand.NewSource(35))
	all := outlines()
	moved := 0
	for _, p := range pieces(t) {
		for _, l := range all {
			// A turn may lead out of the grid by as much as the grid is wide.
			m := api.Motion{Turn: r.Intn(4), Mirror: r.Intn(2) == 0, By: at(50+r.Intn(100), 50+r.Intn(100))}
			to, u, e := plane.Move(l, m)
			if e != api.OK || len(l) != len(p.Gauges) {
				continue
			}
			for _, s := range allSettings(len(l)) {
				both, _ := plane.Compose(s, u, len(l))
				here, e1 := glass.Fits(p, l, s)
				there, e2 := glass.Fits(p, to, both)
				if here != there || e1 != api.OK || e2 != api.OK {
					t.Fatal(p, l, m, s)
				}
				if here {
					moved++
				}
			}
		}
	}
	if moved < 300 {
		t.Error("few pieces were moved:", moved)
	}
}

// agreeByRule is rule C16 for one setting.
func agreeByRule(p, q api.Piece, s api.Setting) bool {
	r := resetByRule(p, s)
	if len(r.Gauges) != len(q.Gauges) {
		return false
	}
	for i, g := range r.Gauges {
		h := q.Gauges[i]
		meet := g.Edge.Lo <= h.Edge.Hi && h.Edge.Lo <= g.Edge.Hi && g.Across.Lo <= h.Across.Hi && h.Across.Lo <= g.Across.Hi
		if !meet || g.Bend*h.Bend < 0 {
			return false
		}
	}
	r.ID, r.Gauges = q.ID, q.Gauges
	return samePiece(r, q)
}

func TestAgree(t *testing.T) {
	plain := example()
	plain.Marks = nil
	even := copyOf(plain)
	even.Reverse = 2
	change := func(p api.Piece, f func(p *api.Piece)) api.Piece {
		out := copyOf(p)
		f(&out)
		return out
	}
	forward, all := []api.Setting{turned(0), turned(2)}, []api.Setting{turned(0), over(0), turned(2), over(2)}
	for name, x := range map[string]struct {
		p, q api.Piece
		want []api.Setting
	}{
		"itself":         {example(), example(), []api.Setting{turned(0)}},
		"no marks":       {plain, plain, forward},
		"both sides":     {even, even, all},
		"turned over":    {plain, change(plain, func(p *api.Piece) { p.Colour, p.Reverse = 3, 2 }), []api.Setting{over(0), over(2)}},
		"other ID":       {plain, change(plain, func(p *api.Piece) { p.ID = 9 }), forward},
		"other Colour":   {plain, change(plain, func(p *api.Piece) { p.Colour = 4 }), nil},
		"other Reverse":  {plain, change(plain, func(p *api.Piece) { p.Reverse = 4 }), nil},
		"other Made":     {plain, change(plain, func(p *api.Piece) { p.Made = 1 }), nil},
		"other Swell":    {plain, change(plain, func(p *api.Piece) { p.Swell = 1 }), nil},
		"other mark":     {plain, example(), nil},
		"other Tone":     {example(), change(example(), func(p *api.Piece) { p.Marks[0].Tone = 2 }), nil},
		"a mark more":    {example(), change(example(), func(p *api.Piece) { p.Marks = p.Marks[:1] }), nil},
		"turned marks":   {example(), change(example(), func(p *api.Piece) { p.Marks[0].Edge, p.Marks[1].Edge = 2, 3 }), []api.Setting{turned(2)}},
		"mirrored marks": {change(even, func(p *api.Piece) { p.Marks = example().Marks }), change(even, func(p *api.Piece) { p.Marks = []api.Mark{mark(0, 12, 1), mark(3, 0, 2)} }), []api.Setting{over(0)}},
		"longer":         {plain, change(plain, func(p *api.Piece) { p.Gauges[0].Edge = span(17, 20) }), nil},
		"as long":        {plain, change(plain, func(p *api.Piece) { p.Gauges[0].Edge = span(16, 20) }), forward},
		"shorter":        {plain, change(plain, func(p *api.Piece) { p.Gauges[0].Edge = span(10, 15) }), nil},
		"or as long":     {plain, change(plain, func(p *api.Piece) { p.Gauges[0].Edge = span(10, 16) }), forward},
		"further":        {plain, change(plain, func(p *api.Piece) { p.Gauges[1].Across = span(21, 30) }), nil},
		"as far":         {plain, change(plain, func(p *api.Piece) { p.Gauges[1].Across = span(20, 30) }), forward},
		"nearer":         {plain, change(plain, func(p *api.Piece) { p.Gauges[3].Across = span(0, 19) }), nil},
		"or as near":     {plain, change(plain, func(p *api.Piece) { p.Gauges[3].Across = span(0, 20) }), forward},
		"other bend":     {plain, change(plain, func(p *api.Piece) { p.Gauges[2].Bend = -1 }), nil},
		"unknown bend":   {plain, change(plain, func(p *api.Piece) { p.Gauges[2].Bend = 0 }), forward},
		"any bend":       {change(plain, func(p *api.Piece) { p.Gauges[2].Bend = 0 }), change(plain, func(p *api.Piece) { p.Gauges[0].Bend = -1 }), []api.Setting{turned(2)}},
		"square":         {plain, change(plain, func(p *api.Piece) { p.Gauges[0].Edge, p.Gauges[2].Edge = only(4), only(4) }), nil},
		"quarter turn":   {plain, change(plain, func(p *api.Piece) { p.Gauges = append(p.Gauges[1:], p.Gauges[0]) }), []api.Setting{turned(1), turned(3)}},
		"fewer gauges":   {plain, change(plain, func(p *api.Piece) { p.Gauges = p.Gauges[:3] }), nil},
		"more gauges":    {change(plain, func(p *api.Piece) { p.Gauges = p.Gauges[:3] }), plain, nil},
	} {
		if l, e := glass.Agree(x.p, x.q); !slices.Equal(l, x.want) || e != api.OK {
			t.Error(name, l, e)
		}
	}
}

// described returns two descriptions of one piece, of which the second one is reset by a setting.
func described(r *rand.Rand, p api.Piece) (one, other api.Piece) {
	all := allSettings(len(p.Gauges))
	one, other = loose(r, p, 5), loose(r, resetByRule(p, all[r.Intn(len(all))]), 5)
	other.ID = 77
	return one, other
}

// TestDescriptions is P3.8, and compares Agree and Merge with their rules.
func TestDescriptions(t *testing.T) {
	r := rand.New(rand.NewSource(38))
	all := pieces(t)
	var pairs [][2]api.Piece
	for _, p := range all {
		p.Reverse = p.Colour
		one, other := described(r, p)
		p.Marks, p.Gauges = nil, loose(r, p, 30).Gauges
		bare, turned := described(r, p)
		pairs = append(pairs, [2]api.Piece{one, other}, [2]api.Piece{other, p}, [2]api.Piece{bare, turned}, [2]api.Piece{p, all[r.Intn(len(all))]})
	}
	merged := 0
	for _, x := range pairs {
		merged += checkDescriptions(t, x[0], x[1])
	}
	if merged < 500 {
		t.Error("few descriptions agree:", merged)
	}
}

// checkDescriptions checks all settings of two pieces, and returns by how many of them they agree.
func checkDescriptions(t *testing.T, p, q api.Piece) int {
	t.Helper()
	var want []api.Setting
	for _, s := range allSettings(len(p.Gauges)) {
		if agreeByRule(p, q, s) {
			want = append(want, s)
		}
	}
	got, e1 := glass.Agree(p, q)
	converse, e2 := glass.Agree(q, p)
	if !slices.Equal(got, want) || len(converse) != len(got) || e1 != api.OK || e2 != api.OK {
		t.Fatal("agree", p, q, got, want, converse)
	}
	if own, e := glass.Agree(p, p); !slices.Contains(own, api.Setting{}) || e != api.OK {
		t.Fatal("itself", p, own, e)
	}
	for _, s := range allSettings(len(p.Gauges)) {
		m, e := glass.Merge(p, q, s)
		if !slices.Contains(got, s) {
			wantError(t, "merge", e, api.ErrMarks, samePiece(m, api.Piece{}))
			continue
		}
		if inverse, _ := plane.Inverse(s, len(p.Gauges)); !slices.Contains(converse, inverse) {
			t.Fatal("converse", p, q, s, converse)
		}
		if !samePiece(m, mergeByRule(p, q, s)) || !glass.ValidPiece(m) || e != api.OK {
			t.Fatal("merge", p, q, s, m, e)
		}
		checkMergedFits(t, p, q, m, s)
	}
	return len(got)
}

// mergeByRule is rule C17 for a setting by which the pieces agree.
func mergeByRule(p, q api.Piece, s api.Setting) api.Piece {
	out := copyOf(q)
	for i, g := range resetByRule(p, s).Gauges {
		h := &out.Gauges[i]
		h.Edge = span(max(g.Edge.Lo, h.Edge.Lo), min(g.Edge.Hi, h.Edge.Hi))
		h.Across = span(max(g.Across.Lo, h.Across.Lo), min(g.Across.Hi, h.Across.Hi))
		if h.Bend == 0 {
			h.Bend = g.Bend
		}
	}
	return out
}

// checkMergedFits checks that what m, merged of p reset by s and q, fits by a setting, both fit by it.
func checkMergedFits(t *testing.T, p, q, m api.Piece, s api.Setting) {
	t.Helper()
	for _, l := range outlines() {
		all, _ := glass.Settings(m, l)
		for _, u := range all {
			both, _ := plane.Compose(s, u, len(l))
			one, e1 := glass.Fits(q, l, u)
			other, e2 := glass.Fits(p, l, both)
			if !one || !other || e1 != api.OK || e2 != api.OK {
				t.Fatal("merged", p, q, s, l, u)
			}
		}
	}
}

// TestMergeNumbers merges pieces with different numbers of gauges: the setting is for the piece that is reset.
func TestMergeNumbers(t *testing.T) {
	three, four := exact(t, pts(0, 0, 2, 0, 2, 2)), example()
	for _, x := range []struct {
		p, q api.Piece
		s    api.Setting
		want api.Errno
	}{{three, four, turned(2), api.ErrMarks}, {three, four, turned(3), api.ErrArg}, {four, three, over(3), api.ErrMarks}, {four, three, over(4), api.ErrArg}} {
		checkMergeErrors(t, "numbers", x.p, x.q, x.s, x.want)
	}
}

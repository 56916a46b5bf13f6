package glass_test

import (
	"math"
	"math/rand"
	"slices"
	"testing"

	"leadlight/api"
	"leadlight/glass"
	"leadlight/plane"
)

// at is a point.
func at(x, y int) api.Point { return api.Point{X: x, Y: y} }

// pts returns points from pairs of coordinates.
func pts(l ...int) []api.Point {
	var out []api.Point
	for i := 0; i+1 < len(l); i += 2 {
		out = append(out, at(l[i], l[i+1]))
	}
	return out
}

// span is the span from lo to hi, and only is the span of one number.
func span(lo, hi int) api.Span { return api.Span{Lo: lo, Hi: hi} }
func only(n int) api.Span      { return span(n, n) }

func mark(edge, at, tone int) api.Mark { return api.Mark{Edge: edge, At: at, Tone: tone} }

// turned and over are settings without Back and with it.
func turned(shift int) api.Setting { return api.Setting{Shift: shift} }
func over(shift int) api.Setting   { return api.Setting{Shift: shift, Back: true} }

// allSettings returns all settings for n edges, by Shift, and without Back first.
func allSettings(n int) []api.Setting {
	var out []api.Setting
	for k := range n {
		out = append(out, turned(k), over(k))
	}
	return out
}

// box is the outline s of the chapter's examples.
func box() []api.Point { return pts(0, 0, 4, 0, 4, 2, 0, 2) }

// notched is an outline with a corner that bends to the right.
func notched() []api.Point { return pts(0, 0, 4, 0, 4, 4, 2, 1, 0, 4) }

// bowl is a convex outline with n corners.
func bowl(n int) []api.Point {
	var out []api.Point
	for k := range n {
		out = append(out, at(k, k*k))
	}
	return out
}

// star throws an outline whose corners lie around a point, and returns nothing if they do not.
func star(r *rand.Rand, n int) []api.Point {
	var l []api.Point
	for k := range n {
		angle := 2 * math.Pi * float64(k) / float64(n)
		far := 10 + 40*r.Float64()
		l = append(l, at(50+int(far*math.Cos(angle)), 50+int(far*math.Sin(angle))))
	}
	out, _ := plane.Outline(l)
	return out
}

// outlines are outlines of all sizes: those that lie in themselves by several settings, and thrown ones.
func outlines() [][]api.Point {
	out := [][]api.Point{
		box(), notched(), bowl(24),
		pts(0, 0, 4, 0, 1, 2),                               // no two edges alike
		pts(0, 0, 4, 0, 3, 2),                               // the same, turned over
		pts(0, 0, 4, 0, 2, 3),                               // two edges alike
		pts(0, 0, 2, 0, 2, 2, 0, 2),                         // square
		pts(0, 3, 4, 0, 7, 4, 3, 7),                         // oblique square
		pts(0, 0, 5, 0, 8, 4, 3, 4),                         // rhombus
		pts(0, 0, 4, 0, 5, 2, 1, 2),                         // parallelogram
		pts(0, 3, 3, 0, 9, 3, 3, 6),                         // kite
		pts(0, 3, 3, 0, 2, 3, 3, 6),                         // arrow head
		pts(0, 1, 2, 0, 4, 1, 4, 3, 2, 4, 0, 3),             // hexagon
		pts(0, 0, 4096, 0, 4096, 4096, 0, 4096),             // the whole grid
		pts(0, 0, 4096, 4096, 0, 1),                         // the longest edge
		pts(0, 0, 6, 0, 6, 2, 4, 2, 4, 4, 2, 4, 2, 6, 0, 6), // stairs
		pts(0, 1, 1, 1, 1, 0, 2, 0, 2, 1, 3, 1, 3, 2, 2, 2, 2, 3, 1, 3, 1, 2, 0, 2), // cross
	}
	r := rand.New(rand.NewSource(3))
	for n := 3; n <= 24; n++ {
		for range 3 {
			if l := star(r, n); len(l) > 0 {
				out = append(out, l)
			}
		}
	}
	return out
}

// exact is the piece with the exact gauges of an outline, and no marks.
func exact(t *testing.T, l []api.Point) api.Piece {
	t.Helper()
	g, e := glass.Gauges(l)
	if e != api.OK {
		t.Fatal("gauges", l, e)
	}
	return api.Piece{ID: 1, Colour: 2, Reverse: 3, Made: 1300, Swell: -2, Gauges: g}
}

// example is the piece p of the chapter's examples.
func example() api.Piece {
	side := func(edge int) api.Gauge { return api.Gauge{Edge: only(edge), Across: only(20), Bend: 1} }
	return api.Piece{ID: 1, Colour: 2, Reverse: 3, Gauges: []api.Gauge{side(16), side(4), side(16), side(4)}, Marks: []api.Mark{mark(0, 4, 1), mark(1, 16, 2)}}
}

// loose returns a piece that is known less well: its spans are wider, and not all bends are known.
func loose(r *rand.Rand, p api.Piece, by int) api.Piece {
	out := copyOf(p)
	for k := range out.Gauges {
		g := &out.Gauges[k]
		g.Edge = span(max(1, g.Edge.Lo-r.Intn(by+1)), min(api.MaxSquare, g.Edge.Hi+r.Intn(by+1)))
		g.Across = span(max(0, g.Across.Lo-r.Intn(by+1)), min(api.MaxSquare, g.Across.Hi+r.Intn(by+1)))
		if r.Intn(3) == 0 {
			g.Bend = 0
		}
	}
	return out
}

// throwMarks returns up to most marks on n edges.
func throwMarks(r *rand.Rand, n, most int) []api.Mark {
	var out []api.Mark
	for range r.Intn(most + 1) {
		out = append(out, mark(r.Intn(n), r.Intn(17), 1+r.Intn(3)))
	}
	slices.SortFunc(out, byRule)
	return slices.Compact(out)
}

// byRule orders marks by Edge, then At, then Tone.
func byRule(m, o api.Mark) int {
	return slices.Compare([]int{m.Edge, m.At, m.Tone}, []int{o.Edge, o.At, o.Tone})
}

// pieces are pieces of all sizes and of all degrees of knowledge.
func pieces(t *testing.T) []api.Piece {
	t.Helper()
	r := rand.New(rand.NewSource(5))
	out := []api.Piece{example()}
	for _, l := range outlines() {
		p := exact(t, l)
		p.Marks = throwMarks(r, len(l), 6)
		out = append(out, p)
		p.Colour, p.Reverse = 1+r.Intn(2), 1+r.Intn(2)
		out = append(out, loose(r, p, 4), loose(r, p, 400))
	}
	return out
}

// copyOf returns a piece that shares no memory with p.
func copyOf(p api.Piece) api.Piece {
	p.Gauges, p.Marks = slices.Clone(p.Gauges), slices.Clone(p.Marks)
	return p
}

func samePiece(p, q api.Piece) bool {
	return p.ID == q.ID && p.Colour == q.Colour && p.Reverse == q.Reverse && p.Made == q.Made && p.Swell == q.Swell &&
		slices.Equal(p.Gauges, q.Gauges) && slices.Equal(p.Marks, q.Marks)
}

// mod returns i modulo n.
func mod(i, n int) int { return (i%n + n) % n }

// in reports whether n lies in a span.
func in(n int, s api.Span) bool { return s.Lo <= n && n <= s.Hi }

// extremes are the ends of the numbers.
func extremes() []int { return []int{math.MinInt, math.MinInt + 1, math.MaxInt - 1, math.MaxInt} }

// badPieces are pieces that are not valid, each for one reason.
func badPieces() []api.Piece {
	out := []api.Piece{{}}
	change := func(f func(p *api.Piece)) {
		p := example()
		f(&p)
		out = append(out, p)
	}
	for _, n := range append(extremes(), 0, -1, 65536) {
		change(func(p *api.Piece) { p.ID = n })
	}
	for _, n := range append(extremes(), 0, -1, 17) {
		change(func(p *api.Piece) { p.Colour = n })
		change(func(p *api.Piece) { p.Reverse = n })
		change(func(p *api.Piece) { p.Marks[0].Tone = n })
	}
	for _, n := range append(extremes(), -1, 10000) {
		change(func(p *api.Piece) { p.Made = n })
	}
	for _, n := range append(extremes(), -65, 65) {
		change(func(p *api.Piece) { p.Swell = n })
	}
	for _, n := range append(extremes(), -1, 17) {
		change(func(p *api.Piece) { p.Marks[1].At = n })
	}
	for _, n := range append(extremes(), -1, 4) {
		change(func(p *api.Piece) { p.Marks[0].Edge = n })
		change(func(p *api.Piece) { p.Marks[1].Edge = n })
	}
	for _, g := range badGauges() {
		change(func(p *api.Piece) { p.Gauges[2] = g })
		change(func(p *api.Piece) { p.Gauges[3] = g })
	}
	for _, l := range badMarks() {
		change(func(p *api.Piece) { p.Marks = l })
	}
	change(func(p *api.Piece) { p.Gauges = nil })
	change(func(p *api.Piece) { p.Gauges, p.Marks = p.Gauges[:2], nil })
	change(func(p *api.Piece) { p.Gauges = slices.Repeat(p.Gauges[:1], 25) })
	return out
}

// badGauges are gauges that are not valid, each for one reason.
func badGauges() []api.Gauge {
	good := api.Gauge{Edge: span(4, 9), Across: span(4, 9), Bend: 1}
	var out []api.Gauge
	for _, s := range []api.Span{{}, span(0, 9), span(-1, 9), span(10, 9), span(1, 0), span(4, 33554433), span(4, math.MaxInt), span(math.MinInt, 9), span(math.MinInt, math.MaxInt), span(math.MaxInt, math.MinInt)} {
		g := good
		g.Edge = s
		out = append(out, g)
	}
	for _, s := range []api.Span{span(-1, 9), span(-1, -1), span(10, 9), span(1, 0), span(4, 33554433), span(4, math.MaxInt), span(math.MinInt, 9), span(math.MinInt, math.MaxInt), span(math.MaxInt, math.MinInt)} {
		g := good
		g.Across = s
		out = append(out, g)
	}
	for _, bend := range append(extremes(), -2, 2) {
		g := good
		g.Bend = bend
		out = append(out, g)
	}
	return out
}

// manyMarks are n marks on one edge.
func manyMarks(edge, n int) []api.Mark {
	var out []api.Mark
	for k := range n {
		out = append(out, mark(edge, k/4, 1+k%4))
	}
	return out
}

// badMarks are lists of marks on one edge that are not valid, each for one reason.
func badMarks() [][]api.Mark {
	out := [][]api.Mark{
		manyMarks(0, 33),
		make([]api.Mark, 1000),
		{mark(0, 4, 1), mark(0, 4, 1)},
		{mark(0, 4, 2), mark(0, 4, 1)},
		{mark(0, 5, 1), mark(0, 4, 2)},
		{mark(0, 3, 1), mark(0, 5, 1), mark(0, 4, 1)},
	}
	for _, n := range append(extremes(), -1, 17) {
		out = append(out, []api.Mark{mark(0, n, 1)})
	}
	for _, n := range append(extremes(), 0, -1, 17) {
		out = append(out, []api.Mark{mark(0, 4, 1), mark(0, 5, n)})
	}
	return out
}

// badOutlines are lists that are no outlines.
func badOutlines() [][]api.Point {
	return [][]api.Point{nil, pts(0, 0, 4, 0), pts(0, 0, 2, 0, 4, 0, 4, 4), pts(0, 0, 0, 2, 4, 2, 4, 0), pts(4, 0, 4, 2, 0, 2, 0, 0), pts(0, 0, 4, 4, 4, 0, 0, 4), pts(0, 0, 4097, 0, 0, 4), pts(0, 0, math.MaxInt, 0, 0, math.MinInt), bowl(25)}
}

// badSettings are settings that are not valid for n edges.
func badSettings(n int) []api.Setting {
	var out []api.Setting
	for _, k := range append(extremes(), -1, n, n+1, 24) {
		out = append(out, turned(k), over(k))
	}
	return out
}

// TestSamples checks that there are samples of all sizes, with marks, and with bends of all kinds.
func TestSamples(t *testing.T) {
	var sizes [25]int
	bends := map[int]int{}
	marks := 0
	for _, p := range pieces(t) {
		sizes[len(p.Gauges)]++
		marks += len(p.Marks)
		for _, g := range p.Gauges {
			bends[g.Bend]++
		}
	}
	for n := 3; n <= 24; n++ {
		if sizes[n] < 3 {
			t.Error("few samples with", n, "corners:", sizes[n])
		}
	}
	if marks < 100 || bends[-1] < 100 || bends[0] < 100 || bends[1] < 100 {
		t.Error("few marks or bends", marks, bends)
	}
}

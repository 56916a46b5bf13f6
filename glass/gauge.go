package glass

import (
	"cmp"
	"iter"
	"slices"

	"leadlight/api"
	"leadlight/plane"
)

// Gauges returns the exact gauges of an outline.
func Gauges(l []api.Point) ([]api.Gauge, api.Errno) {
	if !plane.ValidOutline(l) {
		return nil, api.ErrArg
	}
	var out []api.Gauge
	for _, m := range measured(l) {
		out = append(out, api.Gauge{Edge: one(m.edge), Across: one(m.across), Bend: m.bend})
	}
	return out, api.OK
}

// Widen returns gauges whose bounds are further apart.
func Widen(g []api.Gauge, by int) ([]api.Gauge, api.Errno) {
	if !validGauges(g) || !within(by, 0, api.MaxSquare) {
		return nil, api.ErrArg
	}
	out := slices.Clone(g)
	for k := range out {
		out[k].Edge = wider(g[k].Edge, by, 1)
		out[k].Across = wider(g[k].Across, by, 0)
	}
	return out, api.OK
}

// Fits reports whether a piece fits an outline by a setting.
func Fits(p api.Piece, l []api.Point, s api.Setting) (bool, api.Errno) {
	if e := checkSet(p, s); e != api.OK {
		return false, e
	}
	if !plane.ValidOutline(l) {
		return false, api.ErrArg
	}
	return len(fitting(p, l, []api.Setting{s})) > 0, api.OK
}

// Settings returns all settings by which a piece fits an outline.
func Settings(p api.Piece, l []api.Point) ([]api.Setting, api.Errno) {
	if !ValidPiece(p) {
		return nil, api.ErrPiece
	}
	if !plane.ValidOutline(l) {
		return nil, api.ErrArg
	}
	return fitting(p, l, settings(len(p.Gauges))), api.OK
}

// measures are what an outline has where a gauge bounds a piece.
type measures struct{ edge, across, bend int }

// measured produces the measures of an outline at each of its edges.
func measured(l []api.Point) iter.Seq2[int, measures] {
	return func(yield func(int, measures) bool) {
		n := len(l)
		bends, _ := plane.Bends(l)
		for i, p := range l {
			next := (i + 1) % n
			edge, _ := plane.Square(p, l[next])
			across, _ := plane.Square(p, l[(i+2)%n])
			if !yield(i, measures{edge, across, bends[next]}) {
				return
			}
		}
	}
}

// fitting returns those of the settings by which a valid piece fits an outline. It uses their memory.
func fitting(p api.Piece, l []api.Point, some []api.Setting) []api.Setting {
	if len(p.Gauges) != len(l) {
		return nil
	}
	for edge, m := range measured(l) {
		some = slices.DeleteFunc(some, func(s api.Setting) bool { return !holds(laidOn(p.Gauges, s, edge), m) })
	}
	return some
}

// holds reports whether a gauge holds of measures: then the nearest ones of which it holds are they themselves.
func holds(g api.Gauge, m measures) bool {
	return m == measures{nearest(g.Edge, m.edge), nearest(g.Across, m.across), cmp.Or(g.Bend, m.bend)}
}

// nearest returns the number of a span that is not empty that is nearest to n.
func nearest(s api.Span, n int) int { return min(max(s.Lo, n), s.Hi) }

// laidOn returns the gauge that gauges, reset by a setting, have for an edge.
func laidOn(gauges []api.Gauge, s api.Setting, edge int) api.Gauge {
	n := len(gauges)
	inverse, _ := plane.Inverse(s, n)
	i, _ := plane.Edge(inverse, n, edge)
	out := gauges[i]
	if s.Back {
		// Walked backwards, the edge ends at its other corner, and the gauge before it measures that one.
		before := gauges[(i+n-1)%n]
		out.Across, out.Bend = before.Across, before.Bend
	}
	return out
}

func validGauges(g []api.Gauge) bool {
	wrong := func(g api.Gauge) bool { return !validGauge(g) }
	return within(len(g), 3, api.MaxCorners) && !slices.ContainsFunc(g, wrong)
}

func validGauge(g api.Gauge) bool {
	return 0 < g.Edge.Lo && g.Edge.Lo <= g.Edge.Hi && g.Edge.Hi <= api.MaxSquare &&
		0 <= g.Across.Lo && g.Across.Lo <= g.Across.Hi && g.Across.Hi <= api.MaxSquare &&
		within(g.Bend, -1, 1)
}

// one returns the span of one number.
func one(n int) api.Span { return api.Span{Lo: n, Hi: n} }

// wider returns a span that reaches further on both sides, but not below least nor above the greatest square.
func wider(s api.Span, by, least int) api.Span {
	return api.Span{Lo: max(s.Lo-by, least), Hi: min(s.Hi+by, api.MaxSquare)}
}

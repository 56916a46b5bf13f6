package glass

import (
	"cmp"
	"slices"

	"leadlight/api"
	"leadlight/plane"
)

// Reset returns a piece as it is described from the edges on which it lies by a setting.
func Reset(p api.Piece, s api.Setting) (api.Piece, api.Errno) {
	if e := checkSet(p, s); e != api.OK {
		return api.Piece{}, e
	}
	return reset(p, s), api.OK
}

// Marks returns the marks of a piece as a setting shows them.
func Marks(p api.Piece, s api.Setting) ([]api.Mark, api.Errno) {
	if e := checkSet(p, s); e != api.OK {
		return nil, e
	}
	return resetMarks(p, s), api.OK
}

// Agree returns all settings by which two pieces can be measurements of one piece.
func Agree(p, q api.Piece) ([]api.Setting, api.Errno) {
	if !ValidPiece(p) || !ValidPiece(q) {
		return nil, api.ErrPiece
	}
	differ := func(s api.Setting) bool { return !alike(reset(p, s), q) }
	return slices.DeleteFunc(settings(len(p.Gauges)), differ), api.OK
}

// Merge returns what two measurements of one piece have in common.
func Merge(p, q api.Piece, s api.Setting) (api.Piece, api.Errno) {
	if !ValidPiece(p) || !ValidPiece(q) {
		return api.Piece{}, api.ErrPiece
	}
	if !plane.ValidSetting(s, len(p.Gauges)) {
		return api.Piece{}, api.ErrArg
	}
	r := reset(p, s)
	if !alike(r, q) {
		return api.Piece{}, api.ErrMarks
	}
	out := q
	out.Gauges = nil
	for i, g := range q.Gauges {
		out.Gauges = append(out.Gauges, common(r.Gauges[i], g))
	}
	out.Marks = slices.Clone(q.Marks)
	return out, api.OK
}

// reset is Reset for a valid piece and setting.
func reset(p api.Piece, s api.Setting) api.Piece {
	out := p
	if s.Back {
		out.Colour, out.Reverse = p.Reverse, p.Colour
	}
	out.Gauges = nil
	for edge := range p.Gauges {
		out.Gauges = append(out.Gauges, laidOn(p.Gauges, s, edge))
	}
	out.Marks = resetMarks(p, s)
	return out
}

func resetMarks(p api.Piece, s api.Setting) []api.Mark {
	out := slices.Clone(p.Marks)
	for k, m := range out {
		out[k].Edge, _ = plane.Edge(s, len(p.Gauges), m.Edge)
		if s.Back {
			out[k].At = api.Parts - m.At
		}
	}
	return sorted(out, compareMarks)
}

// alike reports whether a piece that has been reset and another one can be one piece.
func alike(r, q api.Piece) bool {
	return r.Colour == q.Colour && r.Reverse == q.Reverse && r.Made == q.Made && r.Swell == q.Swell &&
		slices.Equal(r.Marks, q.Marks) && slices.EqualFunc(r.Gauges, q.Gauges, compatible)
}

// compatible reports whether two gauges can be of the same edge.
func compatible(g, h api.Gauge) bool {
	both := common(g, h)
	return both.Edge.Lo <= both.Edge.Hi && both.Across.Lo <= both.Across.Hi &&
		(g.Bend == h.Bend || g.Bend == 0 || h.Bend == 0)
}

// common returns what two gauges have in common.
func common(g, h api.Gauge) api.Gauge {
	return api.Gauge{Edge: shared(g.Edge, h.Edge), Across: shared(g.Across, h.Across), Bend: cmp.Or(g.Bend, h.Bend)}
}

// shared returns the numbers of both spans.
func shared(a, b api.Span) api.Span {
	return api.Span{Lo: max(a.Lo, b.Lo), Hi: min(a.Hi, b.Hi)}
}

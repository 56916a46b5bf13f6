package leading

import (
	"slices"

	"leadlight/api"
)

// farthest is the greatest coordinate, to both sides, that Keeps takes from a caller.
const farthest = 1000000

// longest is how many bounds a loop may have.
const longest = 2000

// NeedOf returns the need of a pane for a piece of a swell.
func NeedOf(p api.Panel, pane, swell int) (int, api.Errno) {
	g, e := readPane(p, pane)
	if e != api.OK {
		return 0, e
	}
	if !within(swell, -api.MaxSwell, api.MaxSwell) {
		return 0, api.ErrArg
	}
	heart := 0
	for l := range g.around(set{pane: true}) {
		heart = max(heart, l.Heart)
	}
	return swell + heart, api.OK
}

// Corners returns the joints at the extreme corners of a pane.
func Corners(p api.Panel, pane int) (west, east, south, north int, e api.Errno) {
	g, e := readPane(p, pane)
	if e != api.OK {
		return 0, 0, 0, 0, e
	}
	west, east = g.extremes(pane, 0)
	south, north = g.extremes(pane, 1)
	return west, east, south, north, api.OK
}

// Bounds returns all bounds of the positions on an axis.
func Bounds(p api.Panel, needs []api.Need, axis int) ([]api.Bound, api.Errno) {
	g, e := readNeeds(p, needs)
	switch {
	case e != api.OK:
		return nil, e
	case !within(axis, 0, 1):
		return nil, api.ErrArg
	}
	return g.bounds(needs, axis), api.OK
}

// Close returns the greatest positions that keep all bounds.
func Close(p api.Panel, needs []api.Need) ([]api.Position, api.Errno) {
	g, e := readNeeds(p, needs)
	if e != api.OK {
		return nil, e
	}
	x, loop := relax(g.bounds(needs, 0))
	y, other := relax(g.bounds(needs, 1))
	if len(loop) > 0 || len(other) > 0 {
		return nil, api.ErrLoop
	}
	var out []api.Position
	for _, j := range p.Web.Joints {
		out = append(out, api.Position{Joint: j.ID, At: api.Point{X: x[j.ID], Y: y[j.ID]}})
	}
	return out, api.OK
}

// Keeps reports whether positions keep all bounds.
func Keeps(p api.Panel, needs []api.Need, l []api.Position) (bool, api.Errno) {
	g, e := readNeeds(p, needs)
	if e != api.OK {
		return false, e
	}
	if !slices.EqualFunc(p.Web.Joints, l, placed) {
		return false, api.OK
	}
	for axis := range 2 {
		at := map[int]int{}
		for _, position := range l {
			at[position.Joint] = coordinate(position.At, axis)
		}
		broken := func(b api.Bound) bool { return at[b.To]-at[b.From] > b.Most }
		if slices.ContainsFunc(g.bounds(needs, axis), broken) {
			return false, api.OK
		}
	}
	return true, api.OK
}

// FindLoop returns a loop that cannot close.
func FindLoop(p api.Panel, needs []api.Need) (api.Loop, api.Errno) {
	g, e := readNeeds(p, needs)
	if e != api.OK {
		return api.Loop{}, e
	}
	for axis := range 2 {
		if _, loop := relax(g.bounds(needs, axis)); len(loop) > 0 {
			return api.Loop{Axis: axis, Bounds: loop}, api.OK
		}
	}
	return api.Loop{}, api.ErrNone
}

// ValidLoop reports whether a loop consists of bounds of the panel and cannot close.
func ValidLoop(p api.Panel, needs []api.Need, l api.Loop) (bool, api.Errno) {
	g, e := readNeeds(p, needs)
	if e != api.OK {
		return false, e
	}
	if !within(l.Axis, 0, 1) || !within(len(l.Bounds), 1, longest) {
		return false, api.OK
	}
	known := g.bounds(needs, l.Axis)
	sum, at := 0, l.Bounds[len(l.Bounds)-1].To
	for _, b := range l.Bounds {
		if b.From != at || !slices.Contains(known, b) {
			return false, api.OK
		}
		sum += b.Most
		at = b.To
	}
	return sum < 0, api.OK
}

// readNeeds is read for a panel for which needs must be valid.
func readNeeds(p api.Panel, needs []api.Need) (glazed, api.Errno) {
	g, e := read(p)
	if e != api.OK {
		return glazed{}, e
	}
	before := 0
	for _, n := range needs {
		if n.Pane <= before || !g.isPane(n.Pane) || !within(n.W, -api.MaxNeed, api.MaxNeed) {
			return glazed{}, api.ErrNeed
		}
		before = n.Pane
	}
	return g, api.OK
}

// placed reports whether a position is one of a joint, and not out of reach.
func placed(j api.Joint, p api.Position) bool {
	return p.Joint == j.ID && within(p.At.X, -farthest, farthest) && within(p.At.Y, -farthest, farthest)
}

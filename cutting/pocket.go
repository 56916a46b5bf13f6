package cutting

import (
	"slices"

	"leadlight/api"
	"leadlight/plane"
)

// Lawful reports whether a score may turn at m on its way from u to v.
func Lawful(u, m, v api.Point, bite int) (bool, api.Errno) {
	if !plane.ValidPoint(u) || !plane.ValidPoint(m) || !plane.ValidPoint(v) || !validBite(bite) {
		return false, api.ErrArg
	}
	return lawful(u, m, v, bite), api.OK
}

// Pocket returns the triangles by which a pocket is cut.
func Pocket(l []api.Point, p api.Pocket, bite int) ([]api.Triangle, api.Errno) {
	pockets, e := plane.Pockets(l)
	if e != api.OK || !validBite(bite) || !slices.Contains(pockets, p) {
		return nil, api.ErrArg
	}
	bites, ok := newScorer(l, bite).bites(p)
	if !ok {
		return nil, api.ErrPocket
	}
	return slices.Clone(bites), api.OK
}

// CanCut reports whether an outline can be cut.
func CanCut(l []api.Point, bite int) (bool, api.Errno) {
	if !plane.ValidOutline(l) || !validBite(bite) {
		return false, api.ErrArg
	}
	_, ok := newScorer(l, bite).freeing()
	return ok, api.OK
}

// Free returns the scores that free an outline from its box.
func Free(l []api.Point, bite int) ([]api.Score, api.Errno) {
	if !plane.ValidOutline(l) || !validBite(bite) {
		return nil, api.ErrArg
	}
	lines, ok := newScorer(l, bite).freeing()
	if !ok {
		return nil, api.ErrPocket
	}
	return scoresOf(lines, l, 0, 0), api.OK
}

// line is the numbers of the corners of a hull score (two) or of a bite (three).
type line []int

// row is the numbers of corners of a pocket, from one to another one.
type row []int

// scorer finds the freeing scores of an outline. It keeps the bites of the first division of each row of which it found them, and of each that has none that there are none: a row is told by its ends.
type scorer struct {
	corners []api.Point
	bends   []int
	bite    int
	known   map[[2]int]division
}

// division is the bites of the first division of a row, if there is one.
type division struct {
	bites []api.Triangle
	ok    bool
}

func newScorer(l []api.Point, bite int) scorer {
	bends, _ := plane.Bends(l)
	return scorer{l, bends, bite, map[[2]int]division{}}
}

// freeing returns the lines of the freeing scores, if all pockets can be cut.
func (c scorer) freeing() ([]line, bool) {
	lines := c.hullLines()
	pockets, _ := plane.Pockets(c.corners)
	for _, p := range pockets {
		bites, ok := c.bites(p)
		if !ok {
			return nil, false
		}
		for _, b := range bites {
			lines = append(lines, line{b.A, b.B, b.C})
		}
	}
	return lines, true
}

// hullLines returns the lines of the hull scores.
func (c scorer) hullLines() []line {
	hull, _ := plane.Hull(c.corners)
	var out []line
	for k, from := range hull {
		to := hull[(k+1)%len(hull)]
		// The sides of the box are cut by splits already.
		if from.X != to.X && from.Y != to.Y {
			out = append(out, line{slices.Index(c.corners, from), slices.Index(c.corners, to)})
		}
	}
	return out
}

// bites returns the bites of the first division of a pocket, if it can be cut.
func (c scorer) bites(p api.Pocket) ([]api.Triangle, bool) {
	r := c.rowOf(p)
	if !c.inward(r) {
		return nil, false
	}
	d := c.divide(r)
	return d.bites, d.ok
}

// rowOf returns the row of all corners of a pocket.
func (c scorer) rowOf(p api.Pocket) row {
	n := len(c.corners)
	r := row{p.From}
	for k := p.From; k != p.To; {
		k = (k + 1) % n
		r = append(r, k)
	}
	return r
}

// inward reports whether all corners of a row but its ends bend to the right.
func (c scorer) inward(r row) bool {
	return !slices.ContainsFunc(r[1:len(r)-1], func(k int) bool { return c.bends[k] > 0 })
}

// divide returns the first division of a row.
func (c scorer) divide(r row) division {
	last := len(r) - 1
	if last < 2 {
		return division{ok: true}
	}
	ends := [2]int{r[0], r[last]}
	found, ok := c.known[ends]
	if ok {
		return found
	}
	for m := 1; m < last && !found.ok; m++ {
		found = c.divideAt(r, m)
	}
	c.known[ends] = found
	return found
}

// divideAt returns the first division of a row of which the first bite has the corner between at an index.
func (c scorer) divideAt(r row, m int) division {
	if !c.lawful(r, m) {
		return division{}
	}
	b := api.Triangle{A: r[0], B: r[m], C: r[len(r)-1]}
	before, after := c.divide(r[:m+1]), c.divide(r[m:])
	if !before.ok || !after.ok {
		return division{}
	}
	return division{slices.Concat([]api.Triangle{b}, before.bites, after.bites), true}
}

// lawful reports whether the bite of a row is lawful that has the corner between at an index.
func (c scorer) lawful(r row, m int) bool {
	return lawful(c.corners[r[0]], c.corners[r[m]], c.corners[r[len(r)-1]], c.bite)
}

// lawful is Lawful for valid arguments.
func lawful(u, m, v api.Point, bite int) bool {
	cross := (v.X-u.X)*(m.Y-u.Y) - (v.Y-u.Y)*(m.X-u.X)
	ahead := (m.X-u.X)*(v.X-m.X) + (m.Y-u.Y)*(v.Y-m.Y)
	square, _ := plane.Square(u, v)
	return cross != 0 && ahead >= max(cross, -cross) && cross*cross <= bite*bite*square
}

// scoresOf returns the scores of lines, with the corners of an outline or of a want as it lies.
func scoresOf(lines []line, corners []api.Point, sheet, want int) []api.Score {
	var out []api.Score
	for _, l := range lines {
		s := api.Score{Sheet: sheet, Kind: api.ScoreHull, Want: want}
		if len(l) == 3 {
			s.Kind = api.ScoreBite
		}
		for _, k := range l {
			s.Points = append(s.Points, corners[k])
		}
		out = append(out, s)
	}
	return out
}

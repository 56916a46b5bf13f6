package plane

import (
	"slices"

	"leadlight/api"
)

// Triangles returns a triangulation of an outline.
func Triangles(l []api.Point) ([]api.Triangle, api.Errno) {
	if !ValidOutline(l) {
		return nil, api.ErrArg
	}
	number := numbers(l)
	left := make([]api.Point, len(l))
	copy(left, l)
	ear := func(c corner) bool { return isEar(left, c) }
	var out []api.Triangle
	// What is left stays a simple polygon, so it always has an ear; the last triangle is an ear of itself.
	for len(left) >= 3 {
		k := first(left, ear)
		n := len(left)
		cut := []int{number[left[(k+n-1)%n]], number[left[k]], number[left[(k+1)%n]]}
		slices.Sort(cut)
		out = append(out, api.Triangle{A: cut[0], B: cut[1], C: cut[2]})
		left = append(left[:k], left[k+1:]...)
	}
	return out, api.OK
}

// Split returns the two outlines into which a diagonal divides an outline.
func Split(l []api.Point, i, k int) (a, b []api.Point, err api.Errno) {
	if !ValidOutline(l) || i < 0 || i >= k || k >= len(l) {
		return nil, nil, api.ErrArg
	}
	if !isDiagonal(l, i, k) {
		return nil, nil, api.ErrDiagonal
	}
	return part(l, i, k), part(l, k, i), api.OK
}

// isEar reports whether a corner of the polygon l can be cut off with nothing in the way.
func isEar(l []api.Point, c corner) bool {
	if cross(c.before, c.at, c.after) <= 0 {
		return false
	}
	for _, p := range l {
		own := p == c.before || p == c.at || p == c.after
		if !own && inTriangle(p, c) {
			return false
		}
	}
	return true
}

// inTriangle reports whether p lies in the counterclockwise triangle of a corner or on its border.
func inTriangle(p api.Point, c corner) bool {
	return cross(c.before, c.at, p) >= 0 && cross(c.at, c.after, p) >= 0 && cross(c.after, c.before, p) >= 0
}

// isDiagonal reports whether the segment between the corners i and k divides the outline. It does not between neighbours, where it overlaps their edge.
func isDiagonal(l []api.Point, i, k int) bool {
	n := len(l)
	for e, c := range corners(l) {
		want := api.MeetNone
		if next := (e + 1) % n; e == i || e == k || next == i || next == k {
			want = api.MeetTouch
		}
		if meet(l[i], l[k], c.at, c.after) != want {
			return false
		}
	}
	return place(twice(l), between(l[i], l[k])) == api.Inside
}

// twice returns the outline at twice its size, in which the middle of two corners is a point of the grid.
func twice(l []api.Point) []api.Point {
	var out []api.Point
	for _, p := range l {
		out = append(out, between(p, p))
	}
	return out
}

// between returns the middle of two points at twice the size.
func between(p, q api.Point) api.Point { return api.Point{X: p.X + q.X, Y: p.Y + q.Y} }

// part returns the outline of the corners from the corner i to the corner k of a divided outline. The border may go straight on where the diagonal ends.
func part(l []api.Point, i, k int) []api.Point {
	return normal(leaveOut(stretch(l, i, k), straight))
}

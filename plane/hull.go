package plane

import (
	"slices"

	"leadlight/api"
)

// Hull returns the outline of the convex hull of points.
func Hull(l []api.Point) ([]api.Point, api.Errno) {
	if len(l) > api.MaxPoints || !validPoints(l...) {
		return nil, api.ErrArg
	}
	if flat(l) {
		return nil, api.ErrFlat
	}
	h := hull(l)
	if len(h) > api.MaxCorners {
		return nil, api.ErrLimit
	}
	return h, api.OK
}

// Pockets returns what an outline lacks to its hull.
func Pockets(l []api.Point) ([]api.Pocket, api.Errno) {
	if !ValidOutline(l) {
		return nil, api.ErrArg
	}
	number := numbers(l)
	var out []api.Pocket
	// Both outlines begin with the same point and have the same sense, so the pockets come by increasing From.
	for _, c := range corners(hull(l)) {
		from, to := number[c.at], number[c.after]
		if (from+1)%len(l) != to {
			// The corners from From to To go around the pocket clockwise.
			out = append(out, api.Pocket{From: from, To: to, Area: -doubled(stretch(l, from, to))})
		}
	}
	return out, api.OK
}

// hull returns the corners of the convex hull of points that do not lie on one line.
func hull(l []api.Point) []api.Point {
	sorted := slices.Clone(l)
	slices.SortFunc(sorted, compare)
	below := leftward(sorted)
	slices.Reverse(sorted)
	above := leftward(sorted)
	// Each of the two ends where the other one begins.
	return slices.Concat(below[:len(below)-1], above[:len(above)-1])
}

// leftward returns the chain from the first point of a sorted list to the last one that bends to the left only and has all points to its left.
func leftward(sorted []api.Point) []api.Point {
	var chain []api.Point
	for _, p := range sorted {
		for n := len(chain); n > 1 && cross(chain[n-2], chain[n-1], p) <= 0; n-- {
			chain = chain[:n-1]
		}
		if len(chain) == 0 || chain[len(chain)-1] != p {
			chain = append(chain, p)
		}
	}
	return chain
}

// numbers returns the number of each corner.
func numbers(l []api.Point) map[api.Point]int {
	out := map[api.Point]int{}
	for k, p := range l {
		out[p] = k
	}
	return out
}

// stretch returns the corners from the corner i to the corner k, going around if k is less.
func stretch(l []api.Point, i, k int) []api.Point {
	if i <= k {
		return slices.Clone(l[i : k+1])
	}
	return slices.Concat(l[i:], l[:k+1])
}

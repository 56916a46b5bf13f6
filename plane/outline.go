package plane

import (
	"iter"
	"slices"

	"leadlight/api"
)

// ValidOutline reports whether a list of points is an outline.
func ValidOutline(l []api.Point) bool {
	return 3 <= len(l) && len(l) <= api.MaxCorners && validPoints(l...) &&
		first(l, straight) < 0 && doubled(l) > 0 && least(l) == 0 && simple(l)
}

// Outline returns the outline of a closed polygon.
func Outline(l []api.Point) ([]api.Point, api.Errno) {
	if len(l) < 3 || len(l) > api.MaxPoints || !validPoints(l...) {
		return nil, api.ErrArg
	}
	if flat(l) {
		return nil, api.ErrFlat
	}
	left := leaveOut(leaveOut(l, repeated), straight)
	if len(left) < 3 || !simple(left) {
		return nil, api.ErrOutline
	}
	if len(left) > api.MaxCorners {
		return nil, api.ErrLimit
	}
	return normal(left), api.OK
}

// Area returns twice the area of an outline.
func Area(l []api.Point) (int, api.Errno) {
	if !ValidOutline(l) {
		return 0, api.ErrArg
	}
	return doubled(l), api.OK
}

// Place returns where a point lies relative to an outline.
func Place(l []api.Point, p api.Point) (int, api.Errno) {
	if !ValidOutline(l) || !ValidPoint(p) {
		return 0, api.ErrArg
	}
	return place(l, p), api.OK
}

// Bends returns for each corner whether the outline bends to the left (1) or to the right (-1).
func Bends(l []api.Point) ([]int, api.Errno) {
	if !ValidOutline(l) {
		return nil, api.ErrArg
	}
	return bends(l), api.OK
}

// Grid returns the numbers of grid points on the border and inside of an outline.
func Grid(l []api.Point) (on, in int, err api.Errno) {
	if !ValidOutline(l) {
		return 0, 0, api.ErrArg
	}
	for _, c := range corners(l) {
		on += gcd(c.after.X-c.at.X, c.after.Y-c.at.Y)
	}
	// Pick's theorem: twice the area is on + 2*in - 2.
	return on, (doubled(l) - on + 2) / 2, api.OK
}

// Box returns the lower left and the upper right corner of the bounding box of an outline.
func Box(l []api.Point) (low, high api.Point, err api.Errno) {
	if !ValidOutline(l) {
		return api.Point{}, api.Point{}, api.ErrArg
	}
	low, high = l[0], l[0]
	for _, p := range l {
		low = api.Point{X: min(low.X, p.X), Y: min(low.Y, p.Y)}
		high = api.Point{X: max(high.X, p.X), Y: max(high.Y, p.Y)}
	}
	return low, high, api.OK
}

// corner is a corner of a closed polygon between its neighbours.
type corner struct{ before, at, after api.Point }

// corners produces the corners of a closed polygon with their numbers.
func corners(l []api.Point) iter.Seq2[int, corner] {
	return func(yield func(int, corner) bool) {
		n := len(l)
		for k, p := range l {
			if !yield(k, corner{l[(k+n-1)%n], p, l[(k+1)%n]}) {
				return
			}
		}
	}
}

// first returns the number of the first corner that is of a kind, or -1.
func first(l []api.Point, kind func(corner) bool) int {
	for k, c := range corners(l) {
		if kind(c) {
			return k
		}
	}
	return -1
}

func repeated(c corner) bool { return c.at == c.after }

func straight(c corner) bool { return cross(c.before, c.at, c.after) == 0 }

// leaveOut leaves out the first corner of a kind from a copy of l, until there is none.
func leaveOut(l []api.Point, kind func(corner) bool) []api.Point {
	left := slices.Clone(l)
	for k := first(left, kind); k >= 0; k = first(left, kind) {
		left = slices.Delete(left, k, k+1)
	}
	return left
}

// flat reports whether all points lie on one line.
func flat(l []api.Point) bool {
	for _, p := range l {
		if p != l[0] {
			return !slices.ContainsFunc(l, func(q api.Point) bool { return cross(l[0], p, q) != 0 })
		}
	}
	return true
}

// doubled returns twice the area of a closed polygon, which is negative if it is clockwise.
func doubled(l []api.Point) int {
	sum := 0
	for _, c := range corners(l) {
		sum += c.at.X*c.after.Y - c.after.X*c.at.Y
	}
	return sum
}

// least returns the number of the least point.
func least(l []api.Point) int {
	found := 0
	for k, p := range l {
		if compare(p, l[found]) < 0 {
			found = k
		}
	}
	return found
}

// normal returns the closed polygon of l counterclockwise and from its least point on.
func normal(l []api.Point) []api.Point {
	turned := slices.Clone(l)
	if doubled(turned) < 0 {
		slices.Reverse(turned)
	}
	k := least(turned)
	return slices.Concat(turned[k:], turned[:k])
}

// simple reports whether the edges of a closed polygon meet only in the corners that they share.
func simple(l []api.Point) bool {
	n := len(l)
	for i := range l {
		for k := i + 1; k < n; k++ {
			want := api.MeetNone
			if k == i+1 || i == 0 && k == n-1 {
				want = api.MeetTouch
			}
			if meet(l[i], l[i+1], l[k], l[(k+1)%n]) != want {
				return false
			}
		}
	}
	return true
}

func bends(l []api.Point) []int {
	var out []int
	for _, c := range corners(l) {
		if cross(c.before, c.at, c.after) > 0 {
			out = append(out, 1)
		} else {
			out = append(out, -1)
		}
	}
	return out
}

// place is Place without a limit to the coordinates.
func place(l []api.Point, p api.Point) int {
	winds := 0
	for _, c := range corners(l) {
		side := cross(c.at, c.after, p)
		switch {
		case onSegment(p, c.at, c.after):
			return api.Border
		case c.at.Y <= p.Y && p.Y < c.after.Y && side > 0:
			winds++
		case c.after.Y <= p.Y && p.Y < c.at.Y && side < 0:
			winds--
		}
	}
	if winds == 0 {
		return api.Outside
	}
	return api.Inside
}

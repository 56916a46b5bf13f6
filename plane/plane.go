// Package plane implements exact geometry of points, segments and polygons on the integer grid. See shared/doc/01-plane.md.
package plane

import (
	"cmp"

	"leadlight/api"
)

// ValidPoint reports whether a point lies on the grid.
func ValidPoint(p api.Point) bool {
	return 0 <= p.X && p.X <= api.MaxCoord && 0 <= p.Y && p.Y <= api.MaxCoord
}

// Turn returns 1 if c lies to the left of the line from a to b, -1 if it lies to the right, and 0 if it lies on the line.
func Turn(a, b, c api.Point) (int, api.Errno) {
	if !validPoints(a, b, c) {
		return 0, api.ErrArg
	}
	return cmp.Compare(cross(a, b, c), 0), api.OK
}

// Square returns the squared distance of two points.
func Square(a, b api.Point) (int, api.Errno) {
	if !validPoints(a, b) {
		return 0, api.ErrArg
	}
	return square(a, b), api.OK
}

// Meet returns how the closed segments ab and cd meet.
func Meet(a, b, c, d api.Point) (int, api.Errno) {
	if !validPoints(a, b, c, d) {
		return 0, api.ErrArg
	}
	return meet(a, b, c, d), api.OK
}

func validPoints(l ...api.Point) bool {
	for _, p := range l {
		if !ValidPoint(p) {
			return false
		}
	}
	return true
}

// cross returns the cross product of three points, which is twice the area of their triangle.
func cross(a, b, c api.Point) int {
	return (b.X-a.X)*(c.Y-a.Y) - (b.Y-a.Y)*(c.X-a.X)
}

func square(a, b api.Point) int {
	return (b.X-a.X)*(b.X-a.X) + (b.Y-a.Y)*(b.Y-a.Y)
}

// compare orders points by X, then by Y.
func compare(p, q api.Point) int {
	return cmp.Or(cmp.Compare(p.X, q.X), cmp.Compare(p.Y, q.Y))
}

func gcd(a, b int) int {
	for b != 0 {
		a, b = b, a%b
	}
	return max(a, -a)
}

// meet is Meet without a limit to the coordinates.
func meet(a, b, c, d api.Point) int {
	if parted(a, b, c, d) && parted(c, d, a, b) {
		return api.MeetCross
	}
	// Segments that do not cross have in common what lies between the ends of one that lie on the other.
	ends := [4]struct{ end, from, to api.Point }{{a, c, d}, {b, c, d}, {c, a, b}, {d, a, b}}
	found := api.MeetNone
	var shared api.Point
	for _, e := range ends {
		switch {
		case !onSegment(e.end, e.from, e.to):
		case found == api.MeetNone:
			found, shared = api.MeetTouch, e.end
		case shared != e.end:
			return api.MeetOverlap
		}
	}
	return found
}

// parted reports whether the line of a and b runs between c and d, through neither of them.
func parted(a, b, c, d api.Point) bool {
	return cmp.Compare(cross(a, b, c), 0)*cmp.Compare(cross(a, b, d), 0) < 0
}

// onSegment reports whether p lies on the segment of a and b.
func onSegment(p, a, b api.Point) bool {
	return cross(a, b, p) == 0 &&
		min(a.X, b.X) <= p.X && p.X <= max(a.X, b.X) &&
		min(a.Y, b.Y) <= p.Y && p.Y <= max(a.Y, b.Y)
}

package cutting

import (
	"slices"

	"leadlight/api"
)

// rectangle is a part of a sheet, with its corners of the least and of the greatest coordinates.
type rectangle struct {
	sheet     int
	low, high api.Point
}

// whole returns the rectangle of a sheet.
func whole(s api.Sheet) rectangle {
	return rectangle{sheet: s.ID, high: api.Point{X: s.W, Y: s.H}}
}

// boxAt returns the rectangle of a size at a point of a sheet.
func boxAt(sheet int, at api.Point, s api.Size) rectangle {
	return rectangle{sheet, at, api.Point{X: at.X + s.W, Y: at.Y + s.H}}
}

// holds reports whether a rectangle is at least as wide and as high as a size.
func (r rectangle) holds(s api.Size) bool {
	return s.W <= r.high.X-r.low.X && s.H <= r.high.Y-r.low.Y
}

// solid reports whether both sides are positive.
func (r rectangle) solid() bool { return r.low.X < r.high.X && r.low.Y < r.high.Y }

// overlaps reports whether two solid rectangles have an area in common.
func (r rectangle) overlaps(o rectangle) bool {
	return r.sheet == o.sheet && r.low.X < o.high.X && o.low.X < r.high.X && r.low.Y < o.high.Y && o.low.Y < r.high.Y
}

// cut divides a rectangle by the line through a point that is parallel to the Y axis (0) or to the X axis (1). The part near its least corner comes first.
func (r rectangle) cut(direction int, p api.Point) (near, far rectangle) {
	near, far = r, r
	if direction == 0 {
		near.high.X, far.low.X = p.X, p.X
	} else {
		near.high.Y, far.low.Y = p.Y, p.Y
	}
	return near, far
}

// crossed returns the direction of the line from a to b, if it crosses a rectangle from its lower or left side to the opposite one.
func (r rectangle) crossed(a, b api.Point) (direction int, ok bool) {
	upright := a.X == b.X && r.low.X < a.X && a.X < r.high.X && a.Y == r.low.Y && b.Y == r.high.Y
	level := a.Y == b.Y && r.low.Y < a.Y && a.Y < r.high.Y && a.X == r.low.X && b.X == r.high.X
	if level {
		direction = 1
	}
	return direction, upright || level
}

// rest is a rectangle that is left of a sheet. It is begun if scores of a want were made in it.
type rest struct {
	rectangle
	begun bool
}

// left is the rectangles that are left of sheets.
type left []rest

// split divides the rectangle that is not begun and that the line of a score crosses from side to side, if there is one.
func (l *left) split(s api.Score) bool {
	for k, r := range *l {
		direction, ok := r.crossed(s.Points[0], s.Points[1])
		if !ok || r.sheet != s.Sheet || r.begun {
			continue
		}
		near, far := r.cut(direction, s.Points[0])
		(*l)[k].rectangle = near
		*l = append(*l, rest{rectangle: far})
		return true
	}
	return false
}

// begin marks the rectangle that is just a box as begun, and reports whether there is one.
func (l left) begin(box rectangle) bool {
	k := l.find(box)
	if k < 0 {
		return false
	}
	l[k].begun = true
	return true
}

// find returns the index of the rectangle that is just a box, or -1.
func (l left) find(box rectangle) int {
	return slices.IndexFunc(l, func(r rest) bool { return r.rectangle == box })
}

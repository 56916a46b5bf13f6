package plane_test

import (
	"math"
	"slices"
	"testing"

	"leadlight/api"
	"leadlight/plane"
)

// at is a point.
func at(x, y int) api.Point { return api.Point{X: x, Y: y} }

// pts returns points from pairs of coordinates.
func pts(l ...int) []api.Point {
	var out []api.Point
	for i := 0; i+1 < len(l); i += 2 {
		out = append(out, at(l[i], l[i+1]))
	}
	return out
}

// notched is the outline s of the chapter's examples.
func notched() []api.Point { return pts(0, 0, 4, 0, 4, 4, 2, 1, 0, 4) }

// square is an outline with the corner (0, 0).
func square(side int) []api.Point { return pts(0, 0, side, 0, side, side, 0, side) }

// bowl returns n points of a parabola: a convex outline with n corners.
func bowl(n int) []api.Point {
	var out []api.Point
	for k := range n {
		out = append(out, at(k, k*k))
	}
	return out
}

// comb is an outline with four corners for each of its teeth, which stand on a bar.
func comb(teeth int) []api.Point {
	out := pts(0, 0, 4*teeth-2, 0)
	for k := teeth - 1; k > 0; k-- {
		out = append(out, pts(4*k+2, 5, 4*k, 5, 4*k, 1, 4*k-2, 1)...)
	}
	return append(out, pts(2, 5, 0, 5)...)
}

// badPoints are points that lie just outside of the grid, or far from it.
func badPoints() []api.Point {
	return pts(-1, 0, 0, -1, 4097, 0, 0, 4097, math.MaxInt, math.MaxInt, math.MinInt, math.MinInt, math.MaxInt, 0, 0, math.MinInt)
}

// badOutlines are lists that are no outlines, each for one reason.
func badOutlines() map[string][]api.Point {
	return map[string][]api.Point{
		"nothing":        nil,
		"one point":      pts(1, 1),
		"two points":     pts(0, 0, 1, 1),
		"25 corners":     bowl(25),
		"clockwise":      pts(0, 0, 0, 4, 4, 4, 4, 0),
		"straight":       pts(0, 0, 2, 0, 4, 0, 4, 4),
		"straight first": pts(0, 0, 4, 0, 4, 4, 0, 4, 0, 2),
		"spike":          pts(0, 0, 4, 0, 6, 0, 4, 0, 4, 4),
		"twice a point":  pts(0, 0, 4, 0, 4, 0, 4, 4),
		"flat":           pts(0, 0, 1, 1, 2, 2),
		"not least":      pts(4, 0, 4, 4, 0, 4, 0, 0),
		"not least in Y": pts(0, 4, 0, 0, 4, 0, 4, 4),
		"bow tie":        pts(0, 0, 4, 4, 4, 0, 0, 4),
		"crossing":       pts(0, 0, 6, 0, 6, 6, 1, 3, 7, 3, 0, 6),
		"touching":       pts(0, 0, 4, 0, 4, 4, 2, 0, 0, 4),
		"corner twice":   pts(0, 2, 2, 2, 2, 0, 4, 2, 2, 2, 2, 4),
		"overlapping":    pts(0, 0, 6, 0, 6, 2, 4, 0, 2, 0, 0, 4),
		"far right":      pts(0, 0, 4097, 0, 0, 4),
		"far up":         pts(0, 0, 4, 0, 0, 4097),
		"left":           pts(-1, 0, 4, 0, 0, 4),
		"below":          pts(0, -1, 4, 0, 0, 4),
	}
}

// dice is a small generator of numbers that are the same each time.
type dice uint64

func (d *dice) roll(n int) int {
	*d = *d*6364136223846793005 + 1442695040888963407
	return int(uint64(*d)>>33) % n
}

// someOutlines are outlines of all sizes: those of the examples, each of up to five corners on a small grid, and thrown ones.
func someOutlines() [][]api.Point {
	out := [][]api.Point{notched(), square(1), square(4096), bowl(24), comb(2), comb(6), comb(3),
		pts(0, 0, 4096, 4096, 0, 1), pts(1, 3, 2, 0, 5, 1, 3, 2, 4, 5), pts(0, 2, 2, 0, 4, 2, 3, 2, 3, 4, 1, 4, 1, 2)}
	out = append(out, smallOutlines()...)
	var d dice = 7
	for len(out) < 1500 {
		size, n := 3+d.roll(40), 3+d.roll(22)
		var l []api.Point
		for range n {
			l = append(l, at(d.roll(size), d.roll(size)))
		}
		for untangle(l) {
		}
		if o, e := plane.Outline(l); e == api.OK {
			out = append(out, o)
		}
	}
	return out
}

// smallOutlines are all outlines of three to five corners on the grid of three by three points.
func smallOutlines() [][]api.Point {
	var out [][]api.Point
	for n := 3; n <= 5; n++ {
		for _, l := range lists(grid(3), n) {
			if plane.ValidOutline(l) {
				out = append(out, l)
			}
		}
	}
	return out
}

// untangle turns around a part of the list between two edges that cross, and reports whether there was one; the way around gets shorter each time.
func untangle(l []api.Point) bool {
	n := len(l)
	for i := range n {
		for k := i + 2; k < n; k++ {
			if a, b, c, d := l[i], l[i+1], l[k], l[(k+1)%n]; apart(a, b, c, d) && apart(c, d, a, b) {
				slices.Reverse(l[i+1 : k+1])
				return true
			}
		}
	}
	return false
}

// apart reports whether c and d lie on different sides of the line of a and b.
func apart(a, b, c, d api.Point) bool {
	return cross(a, b, c) > 0 && cross(a, b, d) < 0 || cross(a, b, c) < 0 && cross(a, b, d) > 0
}

// grid is the points with coordinates less than n.
func grid(n int) []api.Point {
	var out []api.Point
	for x := range n {
		for y := range n {
			out = append(out, at(x, y))
		}
	}
	return out
}

// lists returns all lists of n elements of l, repeated ones included.
func lists(l []api.Point, n int) [][]api.Point {
	out := [][]api.Point{nil}
	for range n {
		var longer [][]api.Point
		for _, head := range out {
			for _, p := range l {
				longer = append(longer, append(slices.Clone(head), p))
			}
		}
		out = longer
	}
	return out
}

// cross is the cross product of the chapter.
func cross(a, b, c api.Point) int { return (b.X-a.X)*(c.Y-a.Y) - (b.Y-a.Y)*(c.X-a.X) }

// distance is the squared distance of two points.
func distance(a, b api.Point) int { return (b.X-a.X)*(b.X-a.X) + (b.Y-a.Y)*(b.Y-a.Y) }

// on reports whether p lies on the segment of a and b: then the ends lie on opposite sides of it.
func on(p, a, b api.Point) bool {
	return cross(a, b, p) == 0 && (a.X-p.X)*(b.X-p.X)+(a.Y-p.Y)*(b.Y-p.Y) <= 0
}

// area is twice the area of an outline, and 0 of none.
func area(t *testing.T, l []api.Point) int {
	t.Helper()
	n, e := plane.Area(l)
	if e != api.OK {
		t.Fatal("no outline", l, e)
	}
	return n
}

// TestSamples checks that there are samples of all sizes.
func TestSamples(t *testing.T) {
	var sizes [25]int
	for _, l := range someOutlines() {
		sizes[len(l)]++
	}
	for n := 3; n <= 20; n++ {
		if sizes[n] < 5 {
			t.Error("few samples with", n, "corners:", sizes[n])
		}
	}
}

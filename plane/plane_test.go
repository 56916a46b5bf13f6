package plane_test

import (
	"testing"

	"leadlight/api"
	"leadlight/plane"
)

func TestValidPoint(t *testing.T) {
	for _, p := range pts(0, 0, 4096, 0, 0, 4096, 4096, 4096, 17, 4) {
		if !plane.ValidPoint(p) {
			t.Error("valid", p)
		}
	}
	for _, p := range badPoints() {
		if plane.ValidPoint(p) {
			t.Error("not valid", p)
		}
	}
}

func TestTurn(t *testing.T) {
	for _, x := range []struct {
		a, b, c api.Point
		want    int
	}{
		{at(0, 0), at(4, 0), at(4, 4), 1},
		{at(0, 0), at(4, 4), at(4, 0), -1},
		{at(0, 0), at(2, 2), at(4, 4), 0},
		{at(2, 2), at(4, 4), at(0, 0), 0},
		{at(3, 3), at(3, 3), at(4, 1), 0},
		{at(0, 0), at(4096, 4095), at(4095, 4094), -1},
		{at(0, 0), at(4096, 4095), at(1, 1), 1},
		{at(0, 0), at(4096, 0), at(4096, 4096), 1},
	} {
		if n, e := plane.Turn(x.a, x.b, x.c); n != x.want || e != api.OK {
			t.Error(x, n, e)
		}
	}
	for _, l := range lists(grid(3), 3) {
		n, e := plane.Turn(l[0], l[1], l[2])
		if c := cross(l[0], l[1], l[2]); n < -1 || n > 1 || n*c < 0 || (n == 0) != (c == 0) || e != api.OK {
			t.Error(l, n, e)
		}
	}
}

func TestSquare(t *testing.T) {
	for _, x := range []struct {
		a, b api.Point
		want int
	}{{at(0, 0), at(4, 4), 32}, {at(3, 1), at(0, 5), 25}, {at(7, 7), at(7, 7), 0}, {at(0, 4096), at(4096, 0), api.MaxSquare}, {at(5, 2), at(2, 2), 9}, {at(2, 9), at(2, 4), 25}} {
		if n, e := plane.Square(x.a, x.b); n != x.want || e != api.OK {
			t.Error(x, n, e)
		}
	}
}

// TestPointsArg puts a point that is not valid into each place.
func TestPointsArg(t *testing.T) {
	for _, bad := range badPoints() {
		for k := range 4 {
			p := pts(0, 0, 4, 0, 4, 4, 0, 4)
			p[k] = bad
			if n, e := plane.Meet(p[0], p[1], p[2], p[3]); n != 0 || e != api.ErrArg {
				t.Error("Meet", p, n, e)
			}
			if k < 3 {
				if n, e := plane.Turn(p[0], p[1], p[2]); n != 0 || e != api.ErrArg {
					t.Error("Turn", p, n, e)
				}
			}
			if k < 2 {
				if n, e := plane.Square(p[0], p[1]); n != 0 || e != api.ErrArg {
					t.Error("Square", p, n, e)
				}
			}
		}
	}
}

func TestMeet(t *testing.T) {
	for _, x := range []struct {
		l    []api.Point
		want int
	}{
		{pts(0, 0, 4, 4, 0, 4, 4, 0), api.MeetCross},
		{pts(0, 0, 4, 0, 2, 0, 2, 3), api.MeetTouch},
		{pts(0, 0, 4, 0, 2, 0, 6, 0), api.MeetOverlap},
		{pts(0, 0, 4, 0, 4, 0, 6, 0), api.MeetTouch},
		{pts(0, 0, 4, 0, 5, 0, 6, 0), api.MeetNone},
		{pts(0, 0, 4, 0, 1, 0, 3, 0), api.MeetOverlap},
		{pts(0, 0, 4, 0, 0, 0, 4, 0), api.MeetOverlap},
		{pts(0, 0, 4, 0, 0, 0, 2, 0), api.MeetOverlap},
		{pts(0, 0, 4, 0, 0, 1, 4, 1), api.MeetNone},
		{pts(0, 0, 4, 0, 0, 0, 0, 4), api.MeetTouch},
		{pts(2, 2, 2, 2, 0, 0, 4, 4), api.MeetTouch},
		{pts(2, 3, 2, 3, 0, 0, 4, 4), api.MeetNone},
		{pts(5, 5, 5, 5, 0, 0, 4, 4), api.MeetNone},
		{pts(4, 4, 4, 4, 0, 0, 4, 4), api.MeetTouch},
		{pts(1, 1, 1, 1, 1, 1, 1, 1), api.MeetTouch},
		{pts(1, 1, 1, 1, 1, 2, 1, 2), api.MeetNone},
		{pts(0, 0, 4096, 4095, 4095, 4094, 4096, 4094), api.MeetNone},
		{pts(0, 0, 4096, 4095, 1, 1, 4096, 4096), api.MeetNone},
		{pts(0, 0, 4096, 4096, 0, 4096, 4096, 0), api.MeetCross},
		{pts(0, 0, 4096, 4095, 0, 1, 4096, 4094), api.MeetCross},
	} {
		if n, e := plane.Meet(x.l[0], x.l[1], x.l[2], x.l[3]); n != x.want || e != api.OK {
			t.Error(x, n, e)
		}
	}
}

// TestMeetOrder is P1.2.
func TestMeetOrder(t *testing.T) {
	for _, l := range lists(grid(3), 4) {
		a, b, c, d := l[0], l[1], l[2], l[3]
		want, _ := plane.Meet(a, b, c, d)
		for i, x := range [][4]api.Point{{b, a, c, d}, {a, b, d, c}, {b, a, d, c}, {c, d, a, b}, {d, c, a, b}, {c, d, b, a}, {d, c, b, a}} {
			if n, e := plane.Meet(x[0], x[1], x[2], x[3]); n != want || e != api.OK {
				t.Error("order", i, l, n, want, e)
			}
		}
	}
}

// TestMeetCounted compares Meet with the points in common, counted where a point in common can lie.
func TestMeetCounted(t *testing.T) {
	for _, l := range lists(grid(3), 4) {
		n, e := plane.Meet(l[0], l[1], l[2], l[3])
		if want := countedMeet(l[0], l[1], l[2], l[3]); n != want || e != api.OK {
			t.Error(l, n, want, e)
		}
	}
}

// countedMeet walks along the first segment in 840 steps: on the grid of three by three points, two lines cross after a number of 840th of a segment.
func countedMeet(a, b, c, d api.Point) int {
	const steps = 840
	big := func(p api.Point) api.Point { return at(steps*p.X, steps*p.Y) }
	shared := map[api.Point]bool{}
	for k := range steps + 1 {
		p := at(a.X*(steps-k)+b.X*k, a.Y*(steps-k)+b.Y*k)
		if on(p, big(c), big(d)) {
			shared[p] = true
		}
	}
	switch {
	case len(shared) == 0:
		return api.MeetNone
	case len(shared) > 1:
		return api.MeetOverlap
	case shared[big(a)] || shared[big(b)] || shared[big(c)] || shared[big(d)]:
		return api.MeetTouch
	}
	return api.MeetCross
}

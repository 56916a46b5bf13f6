package plane_test

import (
	"math"
	"slices"
	"testing"

	"leadlight/api"
	"leadlight/plane"
)

func TestValidOutline(t *testing.T) {
	for name, l := range badOutlines() {
		if plane.ValidOutline(l) {
			t.Error(name)
		}
	}
	for _, l := range [][]api.Point{notched(), square(1), square(4096), bowl(3), bowl(24), comb(6), pts(0, 0, 4, 0, 0, 4), pts(0, 0, 4096, 4095, 4096, 4096), pts(0, 3, 2, 0, 1, 3, 2, 5)} {
		if !plane.ValidOutline(l) {
			t.Error("valid", l)
		}
	}
	for _, bad := range badPoints() {
		for k := range 3 {
			l := pts(0, 0, 4, 0, 4, 4)
			l[k] = bad
			if plane.ValidOutline(l) {
				t.Error("bad point", l)
			}
		}
	}
}

// TestValidOutlineAll compares with the chapter's words, for all lists of points of a small grid.
func TestValidOutlineAll(t *testing.T) {
	for n := 0; n <= 5; n++ {
		for _, l := range lists(grid(3), n) {
			if got := plane.ValidOutline(l); got != isOutline(l) {
				t.Error(l, got)
			}
		}
	}
}

// isOutline is the chapter's definition.
func isOutline(l []api.Point) bool {
	n, sum := len(l), 0
	if n < 3 || n > 24 {
		return false
	}
	for k, p := range l {
		next, after := l[(k+1)%n], l[(k+2)%n]
		sum += p.X*next.Y - next.X*p.Y
		if cross(p, next, after) == 0 || k > 0 && (p.X < l[0].X || p.X == l[0].X && p.Y <= l[0].Y) {
			return false
		}
		for i := range n {
			how, _ := plane.Meet(p, next, l[i], l[(i+1)%n])
			neighbours := i == (k+1)%n || k == (i+1)%n
			if i != k && (neighbours && how != api.MeetTouch || !neighbours && how != api.MeetNone) {
				return false
			}
		}
	}
	return sum > 0
}

func TestOutline(t *testing.T) {
	for name, x := range map[string]struct {
		l, want []api.Point
		e       api.Errno
	}{
		"example":            {pts(4, 4, 4, 2, 4, 0, 0, 0, 0, 4), square(4), api.OK},
		"bow tie":            {pts(0, 0, 4, 4, 4, 0, 0, 4), nil, api.ErrOutline},
		"repeated":           {pts(0, 0, 0, 0, 4, 0, 4, 0, 4, 0, 4, 4, 0, 4, 0, 0), square(4), api.OK},
		"spike":              {pts(0, 0, 4, 0, 6, 0, 4, 0, 4, 4), pts(0, 0, 4, 0, 4, 4), api.OK},
		"spike of spikes":    {pts(0, 0, 4, 0, 6, 0, 7, 0, 5, 0, 9, 0, 4, 0, 4, 4), pts(0, 0, 4, 0, 4, 4), api.OK},
		"spike at the start": {pts(6, 0, 4, 0, 4, 4, 0, 0, 4, 0), pts(0, 0, 4, 0, 4, 4), api.OK},
		"there and back":     {pts(0, 0, 4, 0, 4, 4, 4, 0), nil, api.ErrOutline},
		"three there, back":  {pts(0, 0, 4, 0, 4, 4, 0, 4, 4, 4, 4, 0), nil, api.ErrOutline},
		"branch":             {pts(0, 0, 4, 0, 4, 4, 6, 6, 4, 4, 0, 4), square(4), api.OK},
		"one line":           {pts(0, 0, 1, 1, 3, 3), nil, api.ErrFlat},
		"steep line":         {pts(2, 7, 2, 1, 2, 3, 2, 3), nil, api.ErrFlat},
		"one point":          {pts(1, 1, 1, 1, 1, 1), nil, api.ErrFlat},
		"two points":         {pts(0, 0, 1, 1), nil, api.ErrArg},
		"nothing":            {nil, nil, api.ErrArg},
		"not valid":          {pts(0, 0, 1, 1, -1, 0), nil, api.ErrArg},
		"flat, not valid":    {pts(4095, 0, 4096, 0, 4097, 0), nil, api.ErrArg},
		"eight":              {pts(0, 0, 2, 2, 4, 0, 4, 4, 2, 2, 0, 4), nil, api.ErrOutline},
		"touching":           {pts(0, 0, 4, 0, 4, 4, 2, 0, 0, 4), nil, api.ErrOutline},
		"overlapping":        {pts(0, 0, 6, 0, 6, 2, 4, 0, 2, 0, 0, 4), nil, api.ErrOutline},
		"twice around":       {pts(0, 0, 4, 0, 4, 4, 0, 0, 4, 0, 4, 4), nil, api.ErrOutline},
		"clockwise":          {pts(4, 4, 4, 0, 0, 0, 0, 4), square(4), api.OK},
		"least by Y":         {pts(1, 5, 1, 2, 3, 3), pts(1, 2, 3, 3, 1, 5), api.OK},
		"24 corners":         {bowl(24), bowl(24), api.OK},
		"25 corners":         {bowl(25), nil, api.ErrLimit},
		"25 that cross":      {append(bowl(24), at(3, 1)), nil, api.ErrOutline},
		"26, one straight":   {append(bowl(24), at(22, 22*23), at(1, 23)), bowl(24), api.OK},
	} {
		l, e := plane.Outline(x.l)
		if e != x.e || !slices.Equal(l, x.want) {
			t.Error(name, l, e)
		}
	}
	for _, bad := range badPoints() {
		for k := range 4 {
			l := square(4)
			l[k] = bad
			if l, e := plane.Outline(l); len(l) > 0 || e != api.ErrArg {
				t.Error("bad point", l, e)
			}
		}
	}
}

// around returns the points of the border of a square, one by one.
func around(side int) []api.Point {
	var out []api.Point
	for _, x := range []struct{ from, step api.Point }{{at(0, 0), at(1, 0)}, {at(side, 0), at(0, 1)}, {at(side, side), at(-1, 0)}, {at(0, side), at(0, -1)}} {
		for k := range side {
			out = append(out, at(x.from.X+k*x.step.X, x.from.Y+k*x.step.Y))
		}
	}
	return out
}

func TestOutlineLong(t *testing.T) {
	l := around(100)
	if o, e := plane.Outline(l); !slices.Equal(o, square(100)) || e != api.OK {
		t.Error("400 points", o, e)
	}
	if o, e := plane.Outline(append(l, at(0, 0))); len(o) > 0 || e != api.ErrArg {
		t.Error("401 points", o, e)
	}
	var teeth []api.Point
	for k := range 199 {
		teeth = append(teeth, at(2*k, 10), at(2*k+1, 12))
	}
	teeth = append(teeth, at(398, 0), at(0, 0))
	if o, e := plane.Outline(teeth); len(o) > 0 || e != api.ErrLimit {
		t.Error("400 corners", o, e)
	}
	teeth[300] = at(0, 11)
	if o, e := plane.Outline(teeth); len(o) > 0 || e != api.ErrOutline {
		t.Error("400 corners that cross", o, e)
	}
}

// TestOutlineAll compares with the rule, word by word, for all lists of points of a small grid.
func TestOutlineAll(t *testing.T) {
	for n := 3; n <= 6; n++ {
		size := 3
		if n == 6 {
			size = 2
		}
		for _, l := range lists(grid(size), n) {
			want, wantE := byTheRule(l)
			if o, e := plane.Outline(l); e != wantE || !slices.Equal(o, want) {
				t.Error(l, o, e, want, wantE)
			}
		}
	}
	var d dice = 11
	for range 20000 {
		var l []api.Point
		for range 3 + d.roll(12) {
			l = append(l, at(d.roll(4), d.roll(4)))
		}
		want, wantE := byTheRule(l)
		if o, e := plane.Outline(l); e != wantE || !slices.Equal(o, want) {
			t.Error(l, o, e, want, wantE)
		}
	}
}

// byTheRule is rule A6 for valid points.
func byTheRule(l []api.Point) ([]api.Point, api.Errno) {
	bent := false
	for _, a := range l {
		for _, b := range l {
			bent = bent || cross(l[0], a, b) != 0
		}
	}
	if !bent {
		return nil, api.ErrFlat
	}
	left := slices.Clone(l)
	for k := 0; k < len(left); k++ {
		if left[k] == left[(k+1)%len(left)] {
			left = slices.Delete(left, k, k+1)
			k = -1
		}
	}
	for k := 0; k < len(left); k++ {
		if n := len(left); cross(left[(k+n-1)%n], left[k], left[(k+1)%n]) == 0 {
			left = slices.Delete(left, k, k+1)
			k = -1
		}
	}
	for range 2 {
		for range left {
			if isOutline(left) {
				return left, api.OK
			}
			left = append(left[1:], left[0])
		}
		slices.Reverse(left)
	}
	return nil, api.ErrOutline
}

// TestNormalForm is P1.3 for Outline.
func TestNormalForm(t *testing.T) {
	var d dice = 3
	for _, o := range someOutlines() {
		n := len(o)
		k := d.roll(n)
		turned := slices.Concat(o[k:], o[:k])
		back := slices.Clone(turned)
		slices.Reverse(back)
		for i, l := range [][]api.Point{o, turned, back, thick(turned), thick(thick(back))} {
			got, e := plane.Outline(l)
			if !slices.Equal(got, o) || e != api.OK || !plane.ValidOutline(got) {
				t.Fatal(i, l, got, e)
			}
		}
	}
}

// thick returns the closed polygon with each point twice, and with the grid points on its edges that are nearest to the ends.
func thick(l []api.Point) []api.Point {
	var out []api.Point
	for k, p := range l {
		q := l[(k+1)%len(l)]
		for div := max(abs(q.X-p.X), abs(q.Y-p.Y)); div > 1; div-- {
			if (q.X-p.X)%div == 0 && (q.Y-p.Y)%div == 0 {
				out = append(out, at(p.X+(q.X-p.X)/div, p.Y+(q.Y-p.Y)/div))
				break
			}
		}
		out = append(out, q, q)
	}
	return out
}

func abs(n int) int { return max(n, -n) }

func TestArea(t *testing.T) {
	for _, x := range []struct {
		l    []api.Point
		want int
	}{{notched(), 20}, {square(4), 32}, {square(4096), 2 * 4096 * 4096}, {pts(0, 0, 1, 0, 0, 1), 1}, {comb(2), 44}, {pts(7, 3, 9, 3, 9, 8), 10}} {
		if n, e := plane.Area(x.l); n != x.want || e != api.OK {
			t.Error(x, n, e)
		}
	}
}

func TestPlace(t *testing.T) {
	for _, x := range []struct {
		p    api.Point
		want int
	}{{at(2, 1), api.Border}, {at(2, 2), api.Outside}, {at(1, 1), api.Inside}, {at(0, 0), api.Border}, {at(4, 2), api.Border}, {at(5, 0), api.Outside}, {at(2, 0), api.Border}, {at(0, 4), api.Border}, {at(0, 5), api.Outside}, {at(3, 1), api.Inside}, {at(5, 1), api.Outside}, {at(4096, 4096), api.Outside}} {
		if n, e := plane.Place(notched(), x.p); n != x.want || e != api.OK {
			t.Error(x, n, e)
		}
	}
	for _, bad := range badPoints() {
		if n, e := plane.Place(notched(), bad); n != 0 || e != api.ErrArg {
			t.Error(bad, n, e)
		}
	}
}

// TestPlaceWinds compares Place with the angle under which the outline is seen from a point.
func TestPlaceWinds(t *testing.T) {
	for _, l := range someOutlines() {
		if _, high, _ := plane.Box(l); high.X > 60 || high.Y > 60 {
			continue
		}
		var d dice = 5
		for range 60 {
			p := at(d.roll(45), d.roll(45))
			if len(l) < 6 {
				p = at(d.roll(5), d.roll(5))
			}
			if n, e := plane.Place(l, p); n != seen(l, p) || e != api.OK {
				t.Fatal(l, p, n, e)
			}
		}
	}
}

func seen(l []api.Point, p api.Point) int {
	sum := 0.0
	for k, a := range l {
		b := l[(k+1)%len(l)]
		if on(p, a, b) {
			return api.Border
		}
		sum += math.Atan2(float64(cross(p, a, b)), float64((a.X-p.X)*(b.X-p.X)+(a.Y-p.Y)*(b.Y-p.Y)))
	}
	if math.Abs(sum) < 1 {
		return api.Outside
	}
	return api.Inside
}

func TestBends(t *testing.T) {
	for _, x := range []struct {
		l    []api.Point
		want []int
	}{{notched(), []int{1, 1, 1, -1, 1}}, {square(9), []int{1, 1, 1, 1}}, {comb(2), []int{1, 1, 1, 1, -1, -1, 1, 1}}, {pts(0, 2, 3, 0, 2, 2, 3, 4), []int{1, 1, -1, 1}}, {pts(0, 2, 2, 1, 4, 2, 3, 4), []int{1, 1, 1, 1}}} {
		if l, e := plane.Bends(x.l); !slices.Equal(l, x.want) || e != api.OK {
			t.Error(x, l, e)
		}
	}
	for _, o := range someOutlines() {
		l, e := plane.Bends(o)
		if len(l) != len(o) || e != api.OK {
			t.Fatal(o, l, e)
		}
		for k, n := range l {
			if turn, _ := plane.Turn(o[(k+len(o)-1)%len(o)], o[k], o[(k+1)%len(o)]); turn != n {
				t.Fatal(o, k, n)
			}
		}
	}
}

func TestGrid(t *testing.T) {
	for _, x := range []struct {
		l      []api.Point
		on, in int
	}{{notched(), 14, 4}, {square(1), 4, 0}, {square(4096), 4 * 4096, 4095 * 4095}, {pts(0, 0, 1, 0, 0, 1), 3, 0}, {pts(0, 0, 6, 4, 0, 2), 6, 4}} {
		if on, in, e := plane.Grid(x.l); on != x.on || in != x.in || e != api.OK {
			t.Error(x, on, in, e)
		}
	}
}

// TestPick is P1.5.
func TestPick(t *testing.T) {
	for _, l := range someOutlines() {
		on, in, e := plane.Grid(l)
		if e != api.OK || 2*in+on-2 != area(t, l) {
			t.Fatal("Pick", l, on, in, e)
		}
		low, high, _ := plane.Box(l)
		if (high.X-low.X)*(high.Y-low.Y) > 1700 {
			continue
		}
		count := map[int]int{}
		for x := max(low.X-1, 0); x <= high.X+1; x++ {
			for y := max(low.Y-1, 0); y <= high.Y+1; y++ {
				n, _ := plane.Place(l, at(x, y))
				count[n]++
			}
		}
		if count[api.Border] != on || count[api.Inside] != in {
			t.Fatal("counted", l, on, in, count)
		}
	}
}

func TestBox(t *testing.T) {
	for _, x := range []struct {
		l         []api.Point
		low, high api.Point
	}{{notched(), at(0, 0), at(4, 4)}, {pts(1, 5, 3, 2, 7, 4, 2, 9), at(1, 2), at(7, 9)}, {square(4096), at(0, 0), at(4096, 4096)}, {pts(5, 1, 6, 8, 5, 3), at(5, 1), at(6, 8)}} {
		if low, high, e := plane.Box(x.l); low != x.low || high != x.high || e != api.OK {
			t.Error(x, low, high, e)
		}
	}
}

// TestOutlinesArg hands what is no outline to all functions of one outline.
func TestOutlinesArg(t *testing.T) {
	for name, l := range badOutlines() {
		if n, e := plane.Area(l); n != 0 || e != api.ErrArg {
			t.Error("Area", name, n, e)
		}
		if n, e := plane.Place(l, at(5, 5)); n != 0 || e != api.ErrArg {
			t.Error("Place", name, n, e)
		}
		if b, e := plane.Bends(l); len(b) > 0 || e != api.ErrArg {
			t.Error("Bends", name, b, e)
		}
		if on, in, e := plane.Grid(l); on != 0 || in != 0 || e != api.ErrArg {
			t.Error("Grid", name, on, in, e)
		}
		if low, high, e := plane.Box(l); low != at(0, 0) || high != at(0, 0) || e != api.ErrArg {
			t.Error("Box", name, low, high, e)
		}
		if p, e := plane.Pockets(l); len(p) > 0 || e != api.ErrArg {
			t.Error("Pockets", name, p, e)
		}
		if p, e := plane.Triangles(l); len(p) > 0 || e != api.ErrArg {
			t.Error("Triangles", name, p, e)
		}
		if a, b, e := plane.Split(l, 0, 2); len(a) > 0 || len(b) > 0 || e != api.ErrArg {
			t.Error("Split", name, a, b, e)
		}
		if o, s, e := plane.Move(l, api.Motion{}); len(o) > 0 || s != (api.Setting{}) || e != api.ErrArg {
			t.Error("Move", name, o, s, e)
		}
		for _, x := range [][2][]api.Point{{l, l}, {l, square(2)}, {square(2), l}} {
			if s, e := plane.Settings(x[0], x[1]); len(s) > 0 || e != api.ErrArg {
				t.Error("Settings", name, s, e)
			}
		}
	}
}

// TestKept checks that no function of outlines changes its argument or returns a part of it.
func TestKept(t *testing.T) {
	given := slices.Grow(notched(), 10)
	var results [][]api.Point
	keep := func(l []api.Point, e api.Errno) {
		if e != api.OK {
			t.Error(e)
		}
		results = append(results, l)
	}
	keep(plane.Outline(given))
	keep(plane.Hull(given))
	moved, _, e := plane.Move(given, api.Motion{})
	keep(moved, e)
	a, b, e := plane.Split(given, 0, 3)
	keep(a, e)
	keep(b, e)
	plane.Triangles(given)
	plane.Pockets(given)
	plane.Exit(given[1:])
	if spare := given[5:10]; !slices.Equal(given, notched()) || !slices.Equal(spare, make([]api.Point, 5)) {
		t.Error("changed", given, spare)
	}
	plane.Outline(pts(4, 4, 4, 2, 4, 0, 0, 0, 0, 4)[:4])
	long := pts(4, 4, 4, 2, 4, 0, 0, 0, 0, 4)
	plane.Outline(long)
	if !slices.Equal(long, pts(4, 4, 4, 2, 4, 0, 0, 0, 0, 4)) {
		t.Error("changed", long)
	}
	for i, l := range results {
		for k := range l {
			l[k] = at(77, i)
		}
		if !slices.Equal(given, notched()) {
			t.Fatal("shared with the argument", i)
		}
		for j, m := range results {
			if j > i && slices.Contains(m, at(77, i)) {
				t.Fatal("shared with another result", i, j)
			}
		}
	}
}

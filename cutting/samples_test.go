package cutting_test

import (
	"math"
	"math/rand"
	"slices"
	"testing"

	"leadlight/api"
	"leadlight/cutting"
	"leadlight/plane"
)

// at is a point.
func at(x, y int) api.Point { return api.Point{X: x, Y: y} }

// pts returns points from pairs of coordinates.
func pts(l ...int) []api.Point {
	var out []api.Point
	for i := 0; i+1 < len(l); i += 2 {
		out = append(out, at(l[i], l[i+1]))
	}
	return out
}

// boxed is an outline that is its own box.
func boxed(w, h int) []api.Point { return pts(0, 0, w, 0, w, h, 0, h) }

// notched is the outline of the want w of the chapter's examples.
func notched() []api.Point { return pts(0, 0, 8, 0, 8, 4, 4, 3, 0, 4) }

// example is the wants w and x of the chapter's examples.
func example() []api.Want {
	return []api.Want{{ID: 1, Colour: 1, Outline: notched()}, {ID: 2, Colour: 1, Outline: boxed(6, 2)}}
}

// pane is the sheet s of the chapter's examples.
func pane() api.Sheet { return api.Sheet{ID: 9, Colour: 1, W: 10, H: 6} }

// sheetOf is a sheet of colour 1 without a grain.
func sheetOf(id, w, h int) api.Sheet { return api.Sheet{ID: id, Colour: 1, W: w, H: h} }

// wantsOf returns the wants 1, 2, .. of colour 1 without a grain.
func wantsOf(outlines ...[]api.Point) []api.Want {
	var out []api.Want
	for k, l := range outlines {
		out = append(out, api.Want{ID: k + 1, Colour: 1, Outline: l})
	}
	return out
}

// badPoints are points that lie just outside of the grid, or far from it.
func badPoints() []api.Point {
	return pts(-1, 0, 0, -1, 4097, 0, 0, 4097, math.MaxInt, math.MaxInt, math.MinInt, math.MinInt, math.MaxInt, 0, 0, math.MinInt)
}

// badOutlines are lists that are no outlines.
func badOutlines() [][]api.Point {
	many := pts(0, 0)
	for k := range 24 {
		many = append(many, at(k+1, (k+1)*(k+1)))
	}
	return [][]api.Point{nil, pts(0, 0, 4, 0), pts(0, 0, 2, 0, 4, 0), pts(0, 0, 0, 4, 4, 0), pts(4, 0, 0, 4, 0, 0),
		pts(0, 0, 4, 4, 4, 0, 0, 4), pts(0, 0, 2, 0, 4, 0, 0, 4), pts(0, 0, 4097, 0, 0, 4), pts(-1, 0, 4, 0, 0, 4), many}
}

// moved returns an outline that is moved.
func moved(l []api.Point, x, y int) []api.Point {
	var out []api.Point
	for _, p := range l {
		out = append(out, at(p.X+x, p.Y+y))
	}
	return out
}

// shallow are outlines of all kinds that can be cut with the bite depth 1: without pockets, with hull scores, with a pocket, with several, with pockets that share a corner, with more than one bite.
func shallow() [][]api.Point {
	return [][]api.Point{
		boxed(3, 2), boxed(1, 1), boxed(5, 5), pts(0, 0, 4, 0, 2, 3), pts(0, 2, 2, 0, 4, 2, 2, 4), pts(0, 0, 3, 0, 5, 2, 5, 4, 1, 4, 0, 3),
		notched(), pts(0, 0, 4, 1, 8, 0, 8, 6, 4, 5, 0, 6), pts(0, 0, 6, 1, 12, 0, 11, 6, 12, 12, 6, 11, 0, 12, 1, 6),
		pts(0, 0, 12, 0, 12, 6, 8, 5, 4, 5, 0, 6), pts(0, 0, 10, 0, 5, 4, 0, 10), pts(0, 0, 8, 0, 7, 4, 8, 8),
		pts(0, 4, 3, 1, 9, 0, 9, 8, 6, 6, 2, 5), pts(0, 0, 12, 0, 12, 4, 9, 3, 3, 3, 0, 4),
	}
}

// smooth returns an outline between two rows of points, five apart, of which the heights are thrown: its pockets are flat.
func smooth(d *rand.Rand, columns, depth int) []api.Point {
	for {
		var below, above []api.Point
		for x := range columns {
			below = append(below, at(5*x, d.Intn(depth)))
			above = append(above, at(5*x, 5+depth+d.Intn(depth)))
		}
		slices.Reverse(above)
		if l, e := plane.Outline(slices.Concat(below, above)); e == api.OK {
			return l
		}
	}
}

// thrown returns an outline of thrown points, of which edges that cross are turned around.
func thrown(d *rand.Rand, size, n int) []api.Point {
	for {
		var l []api.Point
		for range n {
			l = append(l, at(d.Intn(size), d.Intn(size)))
		}
		for untangle(l) {
		}
		if o, e := plane.Outline(l); e == api.OK {
			return o
		}
	}
}

// untangle turns around a part of the list between two edges that cross, and reports whether there was one; the way around gets shorter each time.
func untangle(l []api.Point) bool {
	n := len(l)
	for i := range n {
		for k := i + 2; k < n; k++ {
			if how, _ := plane.Meet(l[i], l[i+1], l[k], l[(k+1)%n]); how == api.MeetCross {
				slices.Reverse(l[i+1 : k+1])
				return true
			}
		}
	}
	return false
}

// someOutlines are outlines with pockets of all kinds.
func someOutlines() [][]api.Point {
	d := rand.New(rand.NewSource(2))
	out := append(shallow(), pts(0, 0, 30, 0, 30, 20, 20, 14, 15, 17, 10, 14, 0, 20), pts(0, 0, 30, 0, 30, 20, 20, 17, 10, 17, 0, 20))
	for k := range 600 {
		out = append(out, smooth(d, 2+k%9, 2+k%5), thrown(d, 4+k%30, 3+k%9))
	}
	for k := range 60 {
		out = append(out, hollow(d, 4+k%7))
	}
	return out
}

// hollow returns an outline with a pocket of n corners that all bend to the right, in the right or the upper side.
func hollow(d *rand.Rand, n int) []api.Point {
	x, y := 400, 0
	var steps []api.Point
	for range n - 1 {
		steps = append(steps, at(10+d.Intn(30), d.Intn(21)-10))
	}
	// From the right to the left the row goes down first, and then up, always more steeply.
	slices.SortFunc(steps, func(p, q api.Point) int { return p.Y*q.X - q.Y*p.X })
	row := pts(x, y)
	for _, s := range steps {
		x, y = x-s.X, y+s.Y
		row = append(row, at(x, y))
	}
	low := 0
	for _, p := range row {
		low = min(low, p.Y)
	}
	row = moved(row, -x, 10-low)
	l, _ := plane.Outline(append(pts(0, 0, 400-x, 0), row...))
	if d.Intn(2) == 0 {
		l, _, _ = plane.Move(l, api.Motion{Turn: 3, By: at(0, 400-x)})
	}
	return l
}

// scene is wants that are to be cut from sheets.
type scene struct {
	wants  []api.Want
	sheets []api.Sheet
}

// thrownScene returns up to n wants with boxes of at most side by side, and up to m sheets of at most size by size; all with up to so many colours.
func thrownScene(d *rand.Rand, n, side, m, size, colours int) scene {
	var s scene
	id := 0
	for range d.Intn(n + 1) {
		id += 1 + d.Intn(3)
		l := boxed(1+d.Intn(side), 1+d.Intn(side))
		if d.Intn(3) == 0 {
			l = thrown(d, side+1, 3+d.Intn(4))
		}
		s.wants = append(s.wants, api.Want{ID: id, Colour: 1 + d.Intn(colours), Grain: d.Intn(3), Outline: moved(l, d.Intn(3), d.Intn(3))})
	}
	id = 0
	for range d.Intn(m + 1) {
		id += 1 + d.Intn(3)
		s.sheets = append(s.sheets, api.Sheet{ID: id, Colour: 1 + d.Intn(colours), W: 1 + d.Intn(size), H: 1 + d.Intn(size), Grain: d.Intn(3)})
	}
	return s
}

// cutScene returns wants that can mostly be cut with the bite depth 1, and sheets that mostly have room for them.
func cutScene(d *rand.Rand) scene {
	var s scene
	all := shallow()
	for k := range 1 + d.Intn(3) {
		l := all[d.Intn(len(all))]
		s.wants = append(s.wants, api.Want{ID: 2*k + 1, Colour: 1 + d.Intn(4)/3, Grain: d.Intn(3), Outline: moved(l, d.Intn(3), d.Intn(3))})
	}
	for k := range 3 {
		s.sheets = append(s.sheets, api.Sheet{ID: 3*k + 2, Colour: 1 + k/2, W: 6 + d.Intn(14), H: 6 + d.Intn(14), Grain: d.Intn(3)})
	}
	return s
}

// span is the least and the greatest coordinates of points.
func span(l []api.Point) (low, high api.Point) {
	low, high = l[0], l[0]
	for _, p := range l {
		low, high = at(min(low.X, p.X), min(low.Y, p.Y)), at(max(high.X, p.X), max(high.Y, p.Y))
	}
	return low, high
}

// turns are the turns that are allowed, by the three ways in which grains can be.
func turns(w api.Want, grain int) []int {
	switch {
	case w.Grain == 0 || grain == 0:
		return []int{0, 1}
	case w.Grain == grain:
		return []int{0}
	}
	return []int{1}
}

// sizeOf is the size of the box of a want.
func sizeOf(w api.Want, turn int) api.Size {
	low, high := span(w.Outline)
	if turn == 1 {
		return api.Size{W: high.Y - low.Y, H: high.X - low.X}
	}
	return api.Size{W: high.X - low.X, H: high.Y - low.Y}
}

// lying returns the corners of a want as it lies.
func lying(w api.Want, turn int, p api.Point) []api.Point {
	l := slices.Clone(w.Outline)
	for range turn {
		for k, q := range l {
			l[k] = at(-q.Y, q.X)
		}
	}
	low, _ := span(l)
	return moved(l, p.X-low.X, p.Y-low.Y)
}

// cross is the cross product of the chapter.
func cross(a, b, c api.Point) int { return (b.X-a.X)*(c.Y-a.Y) - (b.Y-a.Y)*(c.X-a.X) }

// sameScores compares lists of scores.
func sameScores(a, b []api.Score) bool {
	return slices.EqualFunc(a, b, func(x, y api.Score) bool {
		return x.Sheet == y.Sheet && x.Kind == y.Kind && x.Want == y.Want && slices.Equal(x.Points, y.Points)
	})
}

// TestSamples checks that the samples are valid, and of many kinds.
func TestSamples(t *testing.T) {
	count := map[string]int{}
	for _, l := range shallow() {
		if ok, e := cutting.CanCut(l, 1); !ok || e != api.OK {
			t.Error("not shallow", l, ok, e)
		}
	}
	for _, l := range someOutlines() {
		pockets, e := plane.Pockets(l)
		if e != api.OK {
			t.Error("no outline", l, e)
		}
		for _, p := range pockets {
			bites, e := cutting.Pocket(l, p, 50)
			switch {
			case e != api.OK:
				count["stays"]++
			case len(bites) > 2:
				count["many bites"]++
			default:
				count["bites"]++
			}
			if p.To < p.From {
				count["over the corner 0"]++
			}
		}
	}
	for name, least := range map[string]int{"stays": 500, "bites": 300, "many bites": 30, "over the corner 0": 100} {
		if count[name] < least {
			t.Error("few", name, count[name])
		}
	}
}

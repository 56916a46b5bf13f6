package cutting_test

import (
	"math/rand"
	"slices"
	"testing"

	"leadlight/api"
	"leadlight/cutting"
	"leadlight/glass"
	"leadlight/plane"
)

// wantCut is rule E13.
func (s scene) wantCut(bite int) (api.Cutting, api.Errno) {
	var free [][]api.Score
	for _, w := range s.wants {
		scores, ok := wantFree(w.Outline, bite)
		if !ok {
			return api.Cutting{}, api.ErrPocket
		}
		free = append(free, scores)
	}
	sheets, area, ok := s.wantAssign()
	if !ok {
		return api.Cutting{}, api.ErrRoom
	}
	c := api.Cutting{Area: area, Placed: make([]api.Placed, len(s.wants))}
	for _, sheet := range s.sheets {
		var some []int
		for k, id := range sheets {
			if id == sheet.ID {
				some = append(some, k)
			}
		}
		c.Scores = append(c.Scores, wantLayOn(s.wants, some, sheet, c.Placed)...)
	}
	for k, p := range c.Placed {
		c.Scores = append(c.Scores, placedScores(s.wants[k], p, free[k])...)
	}
	return c, api.OK
}

// placedScores returns scores of the outline of a want, as it lies.
func placedScores(w api.Want, p api.Placed, scores []api.Score) []api.Score {
	lies := lying(w, p.Turn, p.At)
	var out []api.Score
	for _, s := range scores {
		x := api.Score{Sheet: p.Sheet, Kind: s.Kind, Want: w.ID}
		for _, q := range s.Points {
			x.Points = append(x.Points, lies[slices.Index(w.Outline, q)])
		}
		out = append(out, x)
	}
	return out
}

// sameCutting compares cuttings.
func sameCutting(a, b api.Cutting) bool {
	return a.Area == b.Area && slices.Equal(a.Placed, b.Placed) && sameScores(a.Scores, b.Scores)
}

// TestCut compares E13 with its rule, and is P5.6, the part of P5.4 for what Cut returns, and E16.
func TestCut(t *testing.T) {
	d := rand.New(rand.NewSource(7))
	count := map[api.Errno]int{}
	turned := 0
	for range 400 {
		s := cutScene(d)
		bite := 1 - d.Intn(5)/4
		want, f := s.wantCut(bite)
		c, e := cutting.Cut(s.wants, s.sheets, bite)
		if !sameCutting(c, want) || e != f {
			t.Fatal("Cut", s, bite, c, want, e, f)
		}
		count[e]++
		if e != api.OK {
			continue
		}
		if e, k := cutting.Check(s.wants, s.sheets, bite, c); e != api.OK || k != 0 {
			t.Error("Check", s, bite, c, e, k)
		}
		checkWaste(t, s, c)
		if slices.ContainsFunc(c.Placed, func(p api.Placed) bool { return p.Turn == 1 }) {
			turned++
		}
	}
	if count[api.OK] < 100 || count[api.ErrPocket] < 20 || count[api.ErrRoom] < 20 || turned < 50 {
		t.Error("few", count, turned)
	}
}

// checkWaste is E16 for a cutting, and for what is no cutting at all.
func checkWaste(t *testing.T, s scene, c api.Cutting) {
	t.Helper()
	for _, area := range []int{c.Area, 0, 1} {
		c.Area = area
		want := 2 * area
		for _, w := range s.wants {
			low, _ := span(w.Outline)
			for k, p := range w.Outline {
				want -= cross(low, p, w.Outline[(k+1)%len(w.Outline)])
			}
		}
		if n, e := cutting.Waste(s.wants, c); n != want || e != api.OK {
			t.Error("Waste", s, c, n, want, e)
		}
	}
}

func TestCutExamples(t *testing.T) {
	c, e := cutting.Cut(example(), []api.Sheet{pane()}, 1)
	want := api.Cutting{
		Area:   60,
		Placed: []api.Placed{{Want: 1, Sheet: 9}, {Want: 2, Sheet: 9, Turn: 1, At: at(8, 0)}},
		Scores: []api.Score{
			{Sheet: 9, Kind: api.ScoreSplit, Points: pts(8, 0, 8, 6)},
			{Sheet: 9, Kind: api.ScoreSplit, Points: pts(0, 4, 8, 4)},
			{Sheet: 9, Kind: api.ScoreBite, Want: 1, Points: pts(8, 4, 4, 3, 0, 4)},
		},
	}
	if !sameCutting(c, want) || e != api.OK {
		t.Error(c, e)
	}
	if n, e := cutting.Waste(example(), c); n != 40 || e != api.OK {
		t.Error("Waste", n, e)
	}
	for name, x := range map[string]struct {
		l    []api.Want
		s    []api.Sheet
		bite int
		want api.Errno
	}{
		"not so deep":           {example(), []api.Sheet{pane()}, 0, api.ErrPocket},
		"no sheets":             {example(), nil, 1, api.ErrRoom},
		"neither pocket, sheet": {example(), nil, 0, api.ErrPocket},
	} {
		if c, e := cutting.Cut(x.l, x.s, x.bite); e != x.want || !sameCutting(c, api.Cutting{}) {
			t.Error(name, c, e)
		}
	}
	for _, s := range [][]api.Sheet{nil, {pane()}} {
		if c, e := cutting.Cut(nil, s, 0); e != api.OK || !sameCutting(c, api.Cutting{}) {
			t.Error("no wants", c, e)
		}
		if e, k := cutting.Check(nil, s, 0, api.Cutting{}); e != api.OK || k != 0 {
			t.Error("Check of no wants", e, k)
		}
	}
	// The areas of sheets at the limit, and of wants that are more than it.
	most := api.Cutting{Area: 7 * 4096 * 4096}
	if n, e := cutting.Waste(nil, most); n != 14*4096*4096 || e != api.OK {
		t.Error("most", n, e)
	}
	if n, e := cutting.Waste(wantsOf(boxed(4096, 4096), boxed(4096, 4096)), api.Cutting{}); n != -4*4096*4096 || e != api.OK {
		t.Error("negative", n, e)
	}
}

// TestNewGlass is P0.4 for outlines: what the scores of a want leave of its box is, at a point in the middle of each cell, just the outline that is wanted; and a piece with its gauges fits what is cut.
func TestNewGlass(t *testing.T) {
	d := rand.New(rand.NewSource(8))
	cut := 0
	for cut < 150 {
		s := cutScene(d)
		if k := d.Intn(2 * len(s.wants)); k < len(s.wants) {
			s.wants[k].Outline = smooth(d, 2+d.Intn(3), 2)
		}
		c, e := cutting.Cut(s.wants, s.sheets, 1)
		if e != api.OK {
			continue
		}
		cut++
		for k, w := range s.wants {
			checkNewGlass(t, w, c.Placed[k], c.Scores)
		}
	}
}

func checkNewGlass(t *testing.T, w api.Want, p api.Placed, scores []api.Score) {
	t.Helper()
	lies, e := cutting.Turned(w, p.Turn, p.At)
	outline, f := plane.Outline(lies)
	if e != api.OK || f != api.OK {
		t.Fatal("does not lie", w, p, e, f)
	}
	gauges, _ := glass.Gauges(w.Outline)
	piece := api.Piece{ID: 1, Colour: 1, Reverse: 1, Gauges: gauges}
	congruent, _ := plane.Settings(w.Outline, outline)
	if fits, e := glass.Settings(piece, outline); len(congruent) == 0 || congruent[0].Back && !slices.ContainsFunc(congruent, func(s api.Setting) bool { return !s.Back }) || e != api.OK || len(fits) < len(congruent) {
		t.Error("does not fit", w, p, fits, congruent, e)
	}
	var twice []api.Point
	for _, q := range outline {
		twice = append(twice, at(2*q.X, 2*q.Y))
	}
	b := boxOf(w, p)
	for x := b.low.X; x < b.high.X; x++ {
		for y := b.low.Y; y < b.high.Y; y++ {
			q := at(2*x+1, 2*y+1)
			place, _ := plane.Place(twice, q)
			if left, sure := isLeft(w.ID, scores, q); sure && place != api.Border && left != (place == api.Inside) {
				t.Fatal("not the outline", w, p, scores, q)
			}
		}
	}
}

// isLeft reports whether a point of doubled coordinates is left of a want: to the left of each hull score, and outside of each bite. It is not sure of points on the lines of scores.
func isLeft(want int, scores []api.Score, q api.Point) (left, sure bool) {
	left, sure = true, true
	for _, s := range scores {
		if s.Want != want {
			continue
		}
		inside := true
		for k, p := range s.Points {
			next := s.Points[(k+1)%len(s.Points)]
			side := cross(at(2*p.X, 2*p.Y), at(2*next.X, 2*next.Y), q)
			sure = sure && side != 0
			inside = inside && side < 0
			if s.Kind == api.ScoreHull && k == 0 {
				left = left && side > 0
			}
		}
		left = left && !(s.Kind == api.ScoreBite && inside)
	}
	return left, sure
}

package cutting_test

import (
	"math/rand"
	"slices"
	"testing"

	"leadlight/api"
	"leadlight/cutting"
)

// box is a rectangle with its corners of the least and of the greatest coordinates.
type box struct{ low, high api.Point }

func (b box) area() int { return (b.high.X - b.low.X) * (b.high.Y - b.low.Y) }

// apart reports whether two boxes have no area in common.
func (b box) apart(o box) bool {
	return max(b.low.X, o.low.X) >= min(b.high.X, o.high.X) || max(b.low.Y, o.low.Y) >= min(b.high.Y, o.high.Y)
}

// boxOf is the box of a want as it is placed.
func boxOf(w api.Want, p api.Placed) box {
	s := sizeOf(w, p.Turn)
	return box{p.At, at(p.At.X+s.W, p.At.Y+s.H)}
}

// wantLay is the lay-out rule for a box and the wants with some indices.
func (c chamber) wantLay(sheet int, b box, some []int, placed []api.Placed) []api.Score {
	w, h := b.high.X-b.low.X, b.high.Y-b.low.Y
	split := func(x1, y1, x2, y2 int) api.Score {
		return api.Score{Sheet: sheet, Kind: api.ScoreSplit, Points: pts(x1, y1, x2, y2)}
	}
	if len(some) == 0 {
		return nil
	}
	if len(some) == 1 {
		want := c.wants[some[0]]
		k := slices.IndexFunc(turns(want, c.grain), func(turn int) bool { return sizeOf(want, turn).W <= w && sizeOf(want, turn).H <= h })
		turn := turns(want, c.grain)[k]
		placed[some[0]] = api.Placed{Want: want.ID, Sheet: sheet, Turn: turn, At: b.low}
		s := sizeOf(want, turn)
		var out []api.Score
		if s.W < w {
			out = append(out, split(b.low.X+s.W, b.low.Y, b.low.X+s.W, b.high.Y))
		}
		if s.H < h {
			out = append(out, split(b.low.X, b.low.Y+s.H, b.low.X+s.W, b.low.Y+s.H))
		}
		return out
	}
	for number := 1; number < 1<<len(some)-1; number += 2 {
		var group, others []int
		here, there := 0, 0
		for k, i := range some {
			if number>>k&1 == 1 {
				group, here = append(group, i), here|1<<i
			} else {
				others, there = append(others, i), there|1<<i
			}
		}
		for x := 1; x < w; x++ {
			if c.room(here, x, h) && c.room(there, w-x, h) {
				out := []api.Score{split(b.low.X+x, b.low.Y, b.low.X+x, b.high.Y)}
				out = append(out, c.wantLay(sheet, box{b.low, at(b.low.X+x, b.high.Y)}, group, placed)...)
				return append(out, c.wantLay(sheet, box{at(b.low.X+x, b.low.Y), b.high}, others, placed)...)
			}
		}
		for y := 1; y < h; y++ {
			if c.room(here, w, y) && c.room(there, w, h-y) {
				out := []api.Score{split(b.low.X, b.low.Y+y, b.high.X, b.low.Y+y)}
				out = append(out, c.wantLay(sheet, box{b.low, at(b.high.X, b.low.Y+y)}, group, placed)...)
				return append(out, c.wantLay(sheet, box{at(b.low.X, b.low.Y+y), b.high}, others, placed)...)
			}
		}
	}
	panic("no room")
}

// wantLayOn is rule E7 for the wants with some indices on a sheet with room for them.
func wantLayOn(l []api.Want, some []int, s api.Sheet, placed []api.Placed) []api.Score {
	return chamberOf(l, s.Grain).wantLay(s.ID, box{at(0, 0), at(s.W, s.H)}, some, placed)
}

// TestLay compares E7 with its rule, and is P5.3.
func TestLay(t *testing.T) {
	d := rand.New(rand.NewSource(5))
	laid, full := 0, 0
	for k := range 500 {
		s := thrownScene(d, 1+k%5, 3+k%4, 4, 14, 1)
		for _, sheet := range s.sheets {
			placed, splits, e := cutting.Lay(s.wants, sheet)
			if c := chamberOf(s.wants, sheet.Grain); !c.room(c.all(), sheet.W, sheet.H) {
				if e != api.ErrRoom || len(placed) > 0 || len(splits) > 0 {
					t.Error("no room", s.wants, sheet, placed, splits, e)
				}
				full++
				continue
			}
			want := make([]api.Placed, len(s.wants))
			scores := wantLayOn(s.wants, indices(len(s.wants)), sheet, want)
			if !slices.Equal(placed, want) || !sameScores(splits, scores) || e != api.OK {
				t.Error("Lay", s.wants, sheet, placed, want, splits, scores, e)
			}
			checkLaid(t, s.wants, sheet, placed, splits)
			if len(placed) > 2 {
				laid++
			}
		}
	}
	if laid < 100 || full < 100 {
		t.Error("few", laid, full)
	}
}

// checkLaid is P5.3: it carries out splits, each as a cut through the one box that has its ends on two opposite sides.
func checkLaid(t *testing.T, l []api.Want, s api.Sheet, placed []api.Placed, splits []api.Score) {
	t.Helper()
	left := []box{{at(0, 0), at(s.W, s.H)}}
	for _, x := range splits {
		a, b := x.Points[0], x.Points[1]
		upright := func(r box) bool {
			return a.X == b.X && r.low.X < a.X && a.X < r.high.X && r.low.Y == a.Y && r.high.Y == b.Y
		}
		level := func(r box) bool {
			return a.Y == b.Y && r.low.Y < a.Y && a.Y < r.high.Y && r.low.X == a.X && r.high.X == b.X
		}
		k := slices.IndexFunc(left, func(r box) bool { return upright(r) || level(r) })
		if k < 0 || x.Sheet != s.ID || x.Want != 0 || x.Kind != api.ScoreSplit {
			t.Fatal("cannot be carried out", l, s, splits, x)
		}
		r := left[k]
		left[k].high = b
		left = append(left, box{a, r.high})
	}
	sum := 0
	for _, r := range left {
		sum += r.area()
	}
	if sum != s.W*s.H {
		t.Error("area", l, s, splits)
	}
	for k, p := range placed {
		b := boxOf(l[k], p)
		if !slices.Contains(left, b) || !slices.Contains(turns(l[k], s.Grain), p.Turn) || b.low.X < 0 || b.low.Y < 0 || b.high.X > s.W || b.high.Y > s.H {
			t.Error("no rectangle that is left", l, s, p)
		}
		for i := range k {
			if !b.apart(boxOf(l[i], placed[i])) {
				t.Error("area in common", l, s, placed)
			}
		}
	}
}

// indices are the numbers from 0 to n - 1.
func indices(n int) []int {
	var out []int
	for k := range n {
		out = append(out, k)
	}
	return out
}

func TestLayExamples(t *testing.T) {
	split := func(l ...int) api.Score { return api.Score{Sheet: 9, Kind: api.ScoreSplit, Points: pts(l...)} }
	second := api.Want{ID: 5, Colour: 1, Outline: boxed(2, 3)}
	grained := api.Want{ID: 5, Colour: 1, Grain: 1, Outline: boxed(2, 3)}
	for name, x := range map[string]struct {
		l      []api.Want
		s      api.Sheet
		placed []api.Placed
		splits []api.Score
	}{
		"example":   {example(), pane(), []api.Placed{{Want: 1, Sheet: 9}, {Want: 2, Sheet: 9, Turn: 1, At: at(8, 0)}}, []api.Score{split(8, 0, 8, 6), split(0, 4, 8, 4)}},
		"no wants":  {nil, pane(), nil, nil},
		"just fits": {[]api.Want{second}, sheetOf(9, 2, 3), []api.Placed{{Want: 5, Sheet: 9}}, nil},
		"turned":    {[]api.Want{second}, sheetOf(9, 3, 2), []api.Placed{{Want: 5, Sheet: 9, Turn: 1}}, nil},
		"both fit":  {[]api.Want{second}, sheetOf(9, 3, 3), []api.Placed{{Want: 5, Sheet: 9}}, []api.Score{split(2, 0, 2, 3)}},
		"higher":    {[]api.Want{second}, sheetOf(9, 2, 4), []api.Placed{{Want: 5, Sheet: 9}}, []api.Score{split(0, 3, 2, 3)}},
		"greater":   {[]api.Want{second}, sheetOf(9, 4, 4), []api.Placed{{Want: 5, Sheet: 9}}, []api.Score{split(2, 0, 2, 4), split(0, 3, 2, 3)}},
		"grain":     {[]api.Want{grained}, api.Sheet{ID: 9, Colour: 2, W: 4, H: 4, Grain: 2}, []api.Placed{{Want: 5, Sheet: 9, Turn: 1}}, []api.Score{split(3, 0, 3, 4), split(0, 2, 3, 2)}},
		"upright": {wantsOf(boxed(2, 2), boxed(2, 2)), sheetOf(9, 4, 4), []api.Placed{{Want: 1, Sheet: 9}, {Want: 2, Sheet: 9, At: at(2, 0)}},
			[]api.Score{split(2, 0, 2, 4), split(0, 2, 2, 2), split(2, 2, 4, 2)}},
		"level": {wantsOf(boxed(2, 2), boxed(2, 2)), sheetOf(9, 3, 4), []api.Placed{{Want: 1, Sheet: 9}, {Want: 2, Sheet: 9, At: at(0, 2)}},
			[]api.Score{split(0, 2, 3, 2), split(2, 0, 2, 2), split(2, 2, 2, 4)}},
	} {
		placed, splits, e := cutting.Lay(x.l, x.s)
		if !slices.Equal(placed, x.placed) || !sameScores(splits, x.splits) || e != api.OK {
			t.Error(name, placed, splits, e)
		}
	}
	grained.Grain = 2
	if _, _, e := cutting.Lay([]api.Want{grained}, api.Sheet{ID: 9, Colour: 1, W: 9, H: 1, Grain: 1}); e != api.ErrRoom {
		t.Error("no room", e)
	}
}

package cutting_test

import (
	"math"
	"slices"
	"testing"

	"leadlight/api"
	"leadlight/cutting"
	"leadlight/plane"
)

// lawful is the definition by the angle by which a score turns, and by the distance of the corner between from the line of both ends. It is exact as far as the coordinates are small.
func lawful(u, m, v api.Point, bite int) bool {
	ax, ay, bx, by := float64(m.X-u.X), float64(m.Y-u.Y), float64(v.X-m.X), float64(v.Y-m.Y)
	side := ax*by - ay*bx
	turn := math.Abs(math.Atan2(side, ax*bx+ay*by))
	depth := math.Abs(side) / math.Hypot(ax+bx, ay+by)
	return side != 0 && turn < math.Pi/4+1e-9 && depth < float64(bite)+1e-9
}

// TestLawful compares E9 with the definition.
func TestLawful(t *testing.T) {
	var all []api.Point
	for x := range 10 {
		for y := range 7 {
			all = append(all, at(x, y))
		}
	}
	count := map[bool]int{}
	for _, u := range []api.Point{at(0, 0), at(9, 6), at(3, 2)} {
		for _, m := range all {
			for _, v := range all {
				for bite := range 4 {
					got, e := cutting.Lawful(u, m, v, bite)
					if got != lawful(u, m, v, bite) || e != api.OK {
						t.Fatal(u, m, v, bite, got, e)
					}
					count[got]++
				}
			}
		}
	}
	if count[true] < 1000 || count[false] < 1000 {
		t.Error("few", count)
	}
}

func TestLawfulExamples(t *testing.T) {
	for name, x := range map[string]struct {
		p    []api.Point
		bite int
		want bool
	}{
		"example":         {pts(8, 4, 4, 3, 0, 4), 1, true},
		"other way":       {pts(0, 4, 4, 3, 8, 4), 1, true},
		"to the left":     {pts(0, 4, 4, 5, 8, 4), 1, true},
		"depth 0":         {pts(8, 4, 4, 3, 0, 4), 0, false},
		"turns too much":  {pts(4, 4, 2, 3, 0, 4), 9, false},
		"45 degrees":      {pts(0, 0, 3, 0, 5, 2), 2, true},
		"more than that":  {pts(0, 0, 3, 0, 5, 3), 9, false},
		"back":            {pts(0, 0, 3, 0, 0, 1), 9, false},
		"straight":        {pts(8, 4, 4, 4, 0, 4), 9, false},
		"straight back":   {pts(0, 0, 4, 0, 2, 0), 9, false},
		"one point":       {pts(3, 3, 3, 3, 3, 3), 9, false},
		"ends alike":      {pts(3, 3, 5, 4, 3, 3), 9, false},
		"far":             {pts(0, 0, 2048, 848, 4096, 0), 848, true},
		"far, less deep":  {pts(0, 0, 2048, 848, 4096, 0), 847, false},
		"far, steeper":    {pts(0, 0, 2048, 849, 4096, 0), 4096, false},
		"slanted":         {pts(0, 0, 2049, 2047, 4096, 4096), 2, true},
		"slanted, flat":   {pts(0, 0, 2049, 2047, 4096, 4096), 1, false},
		"greatest bite":   {pts(0, 0, 2048, 1, 4096, 0), 4096, true},
		"just not 1 deep": {pts(0, 0, 2000, 1, 4096, 0), 1, true},
		"slanted by 1":    {pts(0, 0, 2048, 1, 4096, 1), 1, true},
		"more than 1":     {pts(0, 0, 2048, 2, 4096, 1), 1, false},
	} {
		if got, e := cutting.Lawful(x.p[0], x.p[1], x.p[2], x.bite); got != x.want || e != api.OK {
			t.Error(name, got, e)
		}
	}
}

// rowOf is the row of the corners of a pocket.
func rowOf(l []api.Point, p api.Pocket) []int {
	var out []int
	for k := p.From; k != p.To; k = (k + 1) % len(l) {
		out = append(out, k)
	}
	return append(out, p.To)
}

// inward reports whether all corners of a pocket but its ends bend to the right.
func inward(l []api.Point, p api.Pocket) bool {
	row := rowOf(l, p)
	for k := 1; k < len(row)-1; k++ {
		if cross(l[row[k-1]], l[row[k]], l[row[k+1]]) >= 0 {
			return false
		}
	}
	return true
}

// divisions are all divisions of a row, lawful or not: first those with the first corner between.
func divisions(row []int) [][]api.Triangle {
	n := len(row)
	if n == 2 {
		return [][]api.Triangle{nil}
	}
	var out [][]api.Triangle
	for m := 1; m < n-1; m++ {
		for _, before := range divisions(row[:m+1]) {
			for _, after := range divisions(row[m:]) {
				out = append(out, slices.Concat([]api.Triangle{{A: row[0], B: row[m], C: row[n-1]}}, before, after))
			}
		}
	}
	return out
}

// wantBites is rule E10: the first of all divisions in which each bite is lawful.
func wantBites(l []api.Point, p api.Pocket, bite int) ([]api.Triangle, bool) {
	if !inward(l, p) {
		return nil, false
	}
	for _, d := range divisions(rowOf(l, p)) {
		unlawful := func(b api.Triangle) bool { return !lawful(l[b.A], l[b.B], l[b.C], bite) }
		if !slices.ContainsFunc(d, unlawful) {
			return d, true
		}
	}
	return nil, false
}

// TestPocket compares E10 and E11 with their rules, and is P5.5.
func TestPocket(t *testing.T) {
	cut, stays, changes := 0, 0, 0
	for _, l := range someOutlines() {
		pockets, _ := plane.Pockets(l)
		var last [][]api.Triangle
		for _, bite := range []int{0, 1, 2, 3, 8, 30, 60, 4096} {
			can := true
			var now [][]api.Triangle
			for _, p := range pockets {
				if len(rowOf(l, p)) > 10 {
					continue
				}
				want, ok := wantBites(l, p, bite)
				can = can && ok
				got, e := cutting.Pocket(l, p, bite)
				if !slices.Equal(got, want) || ok && e != api.OK || !ok && e != api.ErrPocket {
					t.Error("Pocket", l, p, bite, got, want, e)
				}
				checkBites(t, l, p, bite, got)
				now = append(now, got)
				if ok {
					cut++
				} else {
					stays++
				}
			}
			if got, e := cutting.CanCut(l, bite); e != api.OK || got != can {
				t.Error("CanCut", l, bite, got, can, e)
			}
			for k := range last {
				if len(last[k]) > 0 && len(now[k]) == 0 {
					t.Error("not with a greater depth", l, bite)
				}
				if len(last[k]) > 0 && !slices.Equal(last[k], now[k]) {
					changes++
				}
			}
			last = now
		}
	}
	if cut < 1000 || stays < 1000 || changes < 5 {
		t.Error("few", cut, stays, changes)
	}
}

// checkBites is the part of P5.5 for the bites of a pocket that can be cut.
func checkBites(t *testing.T, l []api.Point, p api.Pocket, bite int, bites []api.Triangle) {
	t.Helper()
	area := 0
	for _, b := range bites {
		if ok, e := cutting.Lawful(l[b.A], l[b.B], l[b.C], bite); !ok || e != api.OK {
			t.Error("not lawful", l, p, bite, b)
		}
		// The pocket lies to the right of its row.
		area -= cross(l[b.A], l[b.B], l[b.C])
	}
	if len(bites) > 0 && area != p.Area {
		t.Error("areas", l, p, bite, bites)
	}
}

func TestPocketExamples(t *testing.T) {
	deep := pts(0, 0, 30, 0, 30, 20, 20, 17, 10, 17, 0, 20)
	bump := pts(0, 0, 30, 0, 30, 20, 20, 14, 15, 17, 10, 14, 0, 20)
	for name, x := range map[string]struct {
		l    []api.Point
		p    api.Pocket
		bite int
		want []api.Triangle
		e    api.Errno
	}{
		"example":        {notched(), api.Pocket{From: 2, To: 4, Area: 8}, 1, []api.Triangle{{A: 2, B: 3, C: 4}}, api.OK},
		"not so deep":    {notched(), api.Pocket{From: 2, To: 4, Area: 8}, 0, nil, api.ErrPocket},
		"two corners":    {deep, api.Pocket{From: 2, To: 5, Area: 120}, 3, []api.Triangle{{A: 2, B: 3, C: 5}, {A: 3, B: 4, C: 5}}, api.OK},
		"bump":           {bump, api.Pocket{From: 2, To: 6, Area: 210}, 4096, nil, api.ErrPocket},
		"no such area":   {notched(), api.Pocket{From: 2, To: 4, Area: 9}, 1, nil, api.ErrArg},
		"no such From":   {notched(), api.Pocket{From: 1, To: 4, Area: 8}, 1, nil, api.ErrArg},
		"no such To":     {notched(), api.Pocket{From: 2, To: 0, Area: 8}, 1, nil, api.ErrArg},
		"no pocket":      {boxed(4, 4), api.Pocket{}, 1, nil, api.ErrArg},
		"far away":       {notched(), api.Pocket{From: math.MinInt, To: math.MaxInt, Area: 8}, 1, nil, api.ErrArg},
		"of a neighbour": {notched(), api.Pocket{From: 0, To: 1}, 1, nil, api.ErrArg},
		"over 0":         {pts(0, 0, 4, 0, 4, 10, 0, 10, 1, 5), api.Pocket{From: 3, To: 0, Area: 10}, 1, []api.Triangle{{A: 3, B: 4, C: 0}}, api.OK},
		"first possible": {pts(0, 0, 90, 0, 90, 20, 80, 10, 45, 8, 10, 10, 0, 20), api.Pocket{From: 2, To: 6, Area: 1740}, 12, []api.Triangle{{A: 2, B: 4, C: 6}, {A: 2, B: 3, C: 4}, {A: 4, B: 5, C: 6}}, api.OK},
	} {
		got, e := cutting.Pocket(x.l, x.p, x.bite)
		if !slices.Equal(got, x.want) || e != x.e {
			t.Error(name, got, e)
		}
	}
	// An outline without pockets can always be cut.
	for _, l := range [][]api.Point{boxed(4, 4), pts(0, 0, 4, 0, 2, 3), pts(0, 2, 2, 0, 4, 2, 2, 4)} {
		if ok, e := cutting.CanCut(l, 0); !ok || e != api.OK {
			t.Error("convex", l, ok, e)
		}
	}
}

// bowl is an outline of n corners with a pocket of all but two of them, which lie on a parabola.
func bowl(n int) []api.Point {
	l := pts(0, 0, 4096, 0)
	for k := n - 3; k >= 0; k-- {
		l = append(l, at(4096*k/(n-3), 500+(2*k-n+3)*(2*k-n+3)))
	}
	return l
}

// TestGreatPocket has a pocket of as many corners as there may be, with a depth that is just enough, and one that is not.
func TestGreatPocket(t *testing.T) {
	l := bowl(24)
	pockets, e := plane.Pockets(l)
	if e != api.OK || len(pockets) != 1 || pockets[0].From != 2 || pockets[0].To != 23 {
		t.Fatal(l, pockets, e)
	}
	least := 0
	for bite := range 4097 {
		if ok, _ := cutting.CanCut(l, bite); ok {
			least = bite
			break
		}
	}
	bites, e := cutting.Pocket(l, pockets[0], least)
	if least < 2 || len(bites) != 20 || e != api.OK {
		t.Error(least, bites, e)
	}
	checkBites(t, l, pockets[0], least, bites)
	if _, e := cutting.Pocket(l, pockets[0], least-1); e != api.ErrPocket {
		t.Error(least, e)
	}
}

// wantFree is rule E12, if all pockets can be cut.
func wantFree(l []api.Point, bite int) ([]api.Score, bool) {
	hull := hullEdges(l)
	var out []api.Score
	for _, e := range hull {
		if p, q := l[e[0]], l[e[1]]; p.X != q.X && p.Y != q.Y {
			out = append(out, api.Score{Kind: api.ScoreHull, Points: []api.Point{p, q}})
		}
	}
	for _, e := range hull {
		if e[1] == (e[0]+1)%len(l) {
			continue
		}
		bites, ok := wantBites(l, api.Pocket{From: e[0], To: e[1]}, bite)
		if !ok {
			return nil, false
		}
		for _, b := range bites {
			out = append(out, api.Score{Kind: api.ScoreBite, Points: []api.Point{l[b.A], l[b.B], l[b.C]}})
		}
	}
	return out, true
}

// hullEdges are the numbers of the corners of an outline between which an edge of its hull runs, in order: all corners lie to its left, or on it.
func hullEdges(l []api.Point) [][2]int {
	var out [][2]int
	for i, p := range l {
		for k, q := range l {
			beyond := func(r api.Point) bool {
				c := cross(p, q, r)
				between := (r.X-p.X)*(r.X-q.X)+(r.Y-p.Y)*(r.Y-q.Y) <= 0
				return c < 0 || c == 0 && !between
			}
			if i != k && !slices.ContainsFunc(l, beyond) {
				out = append(out, [2]int{i, k})
			}
		}
	}
	return out
}

// TestFree compares E12 with its rule.
func TestFree(t *testing.T) {
	many := 0
	for _, l := range someOutlines() {
		if pockets, _ := plane.Pockets(l); slices.ContainsFunc(pockets, func(p api.Pocket) bool { return len(rowOf(l, p)) > 10 }) {
			continue
		}
		for _, bite := range []int{0, 1, 3, 20, 60} {
			want, ok := wantFree(l, bite)
			got, e := cutting.Free(l, bite)
			if !sameScores(got, want) || ok && e != api.OK || !ok && e != api.ErrPocket {
				t.Error(l, bite, got, want, e)
			}
			if len(got) > 5 {
				many++
			}
		}
	}
	if many < 100 {
		t.Error("few", many)
	}
}

func TestFreeExamples(t *testing.T) {
	hull := func(l ...int) api.Score { return api.Score{Kind: api.ScoreHull, Points: pts(l...)} }
	bite := func(l ...int) api.Score { return api.Score{Kind: api.ScoreBite, Points: pts(l...)} }
	for name, x := range map[string]struct {
		l    []api.Point
		want []api.Score
	}{
		"example":  {notched(), []api.Score{bite(8, 4, 4, 3, 0, 4)}},
		"triangle": {pts(0, 0, 4, 0, 2, 3), []api.Score{hull(4, 0, 2, 3), hull(2, 3, 0, 0)}},
		"box":      {boxed(4, 2), nil},
		"over 0":   {pts(0, 0, 10, 0, 5, 4, 0, 10), []api.Score{hull(10, 0, 0, 10), bite(10, 0, 5, 4, 0, 10)}},
		"diamond":  {pts(0, 2, 2, 0, 4, 2, 2, 4), []api.Score{hull(0, 2, 2, 0), hull(2, 0, 4, 2), hull(4, 2, 2, 4), hull(2, 4, 0, 2)}},
		"star":     {pts(0, 0, 6, 1, 12, 0, 11, 6, 12, 12, 6, 11, 0, 12, 1, 6), []api.Score{bite(0, 0, 6, 1, 12, 0), bite(12, 0, 11, 6, 12, 12), bite(12, 12, 6, 11, 0, 12), bite(0, 12, 1, 6, 0, 0)}},
	} {
		if got, e := cutting.Free(x.l, 1); !sameScores(got, x.want) || e != api.OK {
			t.Error(name, got, e)
		}
	}
	if got, e := cutting.Free(notched(), 0); len(got) > 0 || e != api.ErrPocket {
		t.Error("not so deep", got, e)
	}
}

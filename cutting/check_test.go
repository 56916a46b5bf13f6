package cutting_test

import (
	"math"
	"math/rand"
	"slices"
	"testing"

	"leadlight/api"
	"leadlight/cutting"
	"leadlight/plane"
)

// canvas says anew what is left of sheets: each cell of a sheet has the number of its rectangle.
type canvas struct {
	scene
	bite   int
	placed []api.Placed
	cells  map[int][][]int
	begun  map[int]bool
	hulls  [][]api.Score
	rows   [][][]api.Point
	stiff  [][]bool
	next   int
}

func canvasOf(s scene, bite int, placed []api.Placed) *canvas {
	v := &canvas{scene: s, bite: bite, placed: placed, cells: map[int][][]int{}, begun: map[int]bool{}, next: 1000}
	for k, sheet := range s.sheets {
		var columns [][]int
		for range sheet.W {
			columns = append(columns, slices.Repeat([]int{k}, sheet.H))
		}
		v.cells[sheet.ID] = columns
	}
	for k, w := range s.wants {
		lies := lying(w, placed[k].Turn, placed[k].At)
		var hull []api.Score
		var rows [][]api.Point
		var stiff []bool
		for _, e := range hullEdges(w.Outline) {
			p, q := lies[e[0]], lies[e[1]]
			if p.X != q.X && p.Y != q.Y {
				hull = append(hull, api.Score{Sheet: placed[k].Sheet, Kind: api.ScoreHull, Want: w.ID, Points: []api.Point{p, q}})
			}
			if e[1] != (e[0]+1)%len(lies) {
				var row []api.Point
				for _, i := range rowOf(lies, api.Pocket{From: e[0], To: e[1]}) {
					row = append(row, lies[i])
				}
				rows, stiff = append(rows, row), append(stiff, !inward(lies, api.Pocket{From: e[0], To: e[1]}))
			}
		}
		v.hulls, v.rows, v.stiff = append(v.hulls, hull), append(v.rows, rows), append(v.stiff, stiff)
	}
	return v
}

// count returns how many cells of a sheet have a number.
func (v *canvas) count(sheet, number int) int {
	n := 0
	for _, column := range v.cells[sheet] {
		for _, c := range column {
			if c == number {
				n++
			}
		}
	}
	return n
}

// split carries out a split, if it can be: on both sides of it are cells of one rectangle, which has none beyond its ends.
func (v *canvas) split(x api.Score) bool {
	cells, ok := v.cells[x.Sheet]
	if !ok || x.Want != 0 || len(x.Points) != 2 {
		return false
	}
	a, b := x.Points[0], x.Points[1]
	w, h := len(cells), len(cells[0])
	if min(a.X, a.Y, b.X, b.Y) < 0 || max(a.X, b.X) > w || max(a.Y, b.Y) > h {
		return false
	}
	upright := a.X == b.X && a.Y < b.Y && 0 < a.X && a.X < w
	level := a.Y == b.Y && a.X < b.X && 0 < a.Y && a.Y < h
	if !upright && !level {
		return false
	}
	n := cells[a.X][a.Y]
	for x, column := range cells {
		for y, c := range column {
			along := upright && a.Y <= y && y < b.Y || level && a.X <= x && x < b.X
			touches := upright && (x == a.X || x == a.X-1) || level && (y == a.Y || y == a.Y-1)
			if along && touches && c != n || c == n && !along {
				return false
			}
		}
	}
	if v.begun[n] {
		return false
	}
	v.next++
	for x, column := range cells {
		for y, c := range column {
			if c == n && (upright && x >= a.X || level && y >= a.Y) {
				column[y] = v.next
			}
		}
	}
	return true
}

// boxLeft returns the number of the rectangle that is just the box of the want k, if there is one.
func (v *canvas) boxLeft(k int) (int, bool) {
	b := boxOf(v.wants[k], v.placed[k])
	cells := v.cells[v.placed[k].Sheet]
	n := cells[b.low.X][b.low.Y]
	for x := b.low.X; x < b.high.X; x++ {
		for y := b.low.Y; y < b.high.Y; y++ {
			if cells[x][y] != n {
				return 0, false
			}
		}
	}
	return n, v.count(v.placed[k].Sheet, n) == b.area()
}

// score carries out a hull score or a bite, if it can be.
func (v *canvas) score(x api.Score) bool {
	k := slices.IndexFunc(v.wants, func(w api.Want) bool { return w.ID == x.Want })
	if k < 0 || v.placed[k].Sheet != x.Sheet {
		return false
	}
	n, ok := v.boxLeft(k)
	if !ok {
		return false
	}
	v.begun[n] = true
	if x.Kind == api.ScoreHull {
		if len(v.hulls[k]) == 0 || !sameScores(v.hulls[k][:1], []api.Score{x}) {
			return false
		}
		v.hulls[k] = v.hulls[k][1:]
		return true
	}
	if len(v.hulls[k]) > 0 || x.Kind != api.ScoreBite || len(x.Points) != 3 {
		return false
	}
	u, m, w := x.Points[0], x.Points[1], x.Points[2]
	for i, row := range v.rows[k] {
		at := slices.Index(row, m)
		last := len(row) - 1
		if row[0] != u || row[last] != w || at < 1 || at == last || v.stiff[k][i] || !lawful(u, m, w, v.bite) {
			continue
		}
		// A row of two corners stays in the list, but nothing can be bitten off it.
		v.rows[k][i] = row[:at+1]
		v.rows[k], v.stiff[k] = append(v.rows[k], row[at:]), append(v.stiff[k], false)
		return true
	}
	return false
}

// free reports whether all wants are free.
func (v *canvas) free() bool {
	for k := range v.wants {
		_, ok := v.boxLeft(k)
		open := slices.ContainsFunc(v.rows[k], func(row []api.Point) bool { return len(row) > 2 })
		if !ok || open || len(v.hulls[k]) > 0 {
			return false
		}
	}
	return true
}

// wantMisplaced is the part of E14 for ErrRoom.
func (s scene) wantMisplaced(placed []api.Placed) (int, bool) {
	for k, w := range s.wants {
		if k == len(placed) {
			return k, true
		}
		p := placed[k]
		if p.Want != w.ID || !plane.ValidPoint(p.At) {
			return k, true
		}
		right := func(sheet api.Sheet) bool {
			return sheet.ID == p.Sheet && sheet.Colour == w.Colour && slices.Contains(turns(w, sheet.Grain), p.Turn) &&
				p.At.X+sizeOf(w, p.Turn).W <= sheet.W && p.At.Y+sizeOf(w, p.Turn).H <= sheet.H
		}
		if !slices.ContainsFunc(s.sheets, right) {
			return k, true
		}
		for i := range k {
			if placed[i].Sheet == p.Sheet && !boxOf(w, p).apart(boxOf(s.wants[i], placed[i])) {
				return k, true
			}
		}
	}
	return len(s.wants), len(placed) > len(s.wants)
}

// wantCheck is rule E14.
func (s scene) wantCheck(bite int, c api.Cutting) (api.Errno, int) {
	if k, ok := s.wantMisplaced(c.Placed); ok {
		return api.ErrRoom, k
	}
	v := canvasOf(s, bite, c.Placed)
	for k, x := range c.Scores {
		if x.Kind == api.ScoreSplit && !v.split(x) || x.Kind != api.ScoreSplit && !v.score(x) {
			return api.ErrScore, k
		}
	}
	if !v.free() {
		return api.ErrScore, len(c.Scores)
	}
	area := 0
	for _, sheet := range s.sheets {
		if slices.ContainsFunc(c.Placed, func(p api.Placed) bool { return p.Sheet == sheet.ID }) {
			area += sheet.W * sheet.H
		}
	}
	if c.Area != area {
		return api.ErrWaste, 0
	}
	return api.OK, 0
}

// copied returns a cutting that shares no memory.
func copied(c api.Cutting) api.Cutting {
	c.Placed, c.Scores = slices.Clone(c.Placed), slices.Clone(c.Scores)
	for k := range c.Scores {
		c.Scores[k].Points = slices.Clone(c.Scores[k].Points)
	}
	return c
}

// spoiled returns a cutting in which something is changed.
func spoiled(d *rand.Rand, s scene, c api.Cutting) api.Cutting {
	c = copied(c)
	if len(c.Scores) == 0 || d.Intn(5) == 0 {
		return spoiledPlaces(d, s, c)
	}
	k, i := d.Intn(len(c.Scores)), d.Intn(len(c.Scores))
	x := &c.Scores[k]
	if len(x.Points) == 0 || len(c.Scores[i].Points) == 0 {
		return c
	}
	sheet, want := s.sheets[d.Intn(len(s.sheets))].ID, s.wants[d.Intn(len(s.wants))].ID
	p := &x.Points[d.Intn(len(x.Points))]
	switch d.Intn(14) {
	case 0:
		c.Scores = slices.Delete(c.Scores, k, k+1)
	case 1:
		c.Scores = slices.Insert(c.Scores, i, *x)
	case 2, 3:
		c.Scores[k], c.Scores[i] = c.Scores[i], c.Scores[k]
	case 4:
		p.X += d.Intn(3) - 1
		p.Y += d.Intn(3) - 1
	case 5:
		slices.Reverse(x.Points)
	case 6:
		x.Sheet = []int{sheet, 0, 99}[d.Intn(3)]
	case 7:
		x.Want = []int{want, 0, 99}[d.Intn(3)]
	case 8:
		x.Kind = d.Intn(5)
	case 9:
		x.Points = append(x.Points, *p)
	case 10:
		x.Points = x.Points[:d.Intn(len(x.Points))]
	case 11:
		*p = c.Scores[i].Points[0]
	case 12:
		c.Scores = slices.Insert(c.Scores, i, api.Score{Sheet: sheet, Kind: api.ScoreSplit, Points: thrownSplit(d, s)})
	case 13:
		d.Shuffle(len(c.Scores), func(i, k int) { c.Scores[i], c.Scores[k] = c.Scores[k], c.Scores[i] })
	}
	return c
}

// thrownSplit returns the ends of a line across a sheet, or a part of it.
func thrownSplit(d *rand.Rand, s scene) []api.Point {
	sheet := s.sheets[d.Intn(len(s.sheets))]
	x, y := d.Intn(sheet.W+1), d.Intn(sheet.H+1)
	return [][]api.Point{pts(x, 0, x, sheet.H), pts(0, y, sheet.W, y), pts(x, y, x, sheet.H), pts(x, y, sheet.W, y)}[d.Intn(4)]
}

// spoiledPlaces is spoiled for what lies where, and for the area.
func spoiledPlaces(d *rand.Rand, s scene, c api.Cutting) api.Cutting {
	if len(c.Placed) == 0 {
		return c
	}
	p := &c.Placed[d.Intn(len(c.Placed))]
	switch d.Intn(9) {
	case 0:
		p.At = at(p.At.X+d.Intn(3)-1, p.At.Y+d.Intn(3)-1)
	case 1:
		p.Turn = d.Intn(4) - 1
	case 2:
		p.Sheet = s.sheets[d.Intn(len(s.sheets))].ID
	case 3:
		p.Want = d.Intn(6)
	case 4:
		c.Placed = c.Placed[:d.Intn(len(c.Placed))]
	case 5:
		c.Placed = append(c.Placed, *p)
	case 6:
		k := d.Intn(len(c.Placed))
		c.Placed[k], *p = *p, c.Placed[k]
	case 7:
		p.At = []api.Point{at(math.MaxInt, 0), at(0, math.MaxInt), at(math.MinInt, 0), at(0, -1), at(4096, 4096)}[d.Intn(5)]
	case 8:
		c.Area += d.Intn(3) - 1
	}
	return c
}

// TestCheck compares E14 with its rule, for what Cut returns with something changed, and for thrown cuttings. It is the part of P5.4 and P5.6 for what Check accepts.
func TestCheck(t *testing.T) {
	d := rand.New(rand.NewSource(9))
	count := map[api.Errno]int{}
	check := func(s scene, bite int, c api.Cutting) {
		t.Helper()
		want, at := s.wantCheck(bite, c)
		e, k := cutting.Check(s.wants, s.sheets, bite, c)
		if e != want || k != at {
			t.Fatal("Check", s, bite, c, e, k, want, at)
		}
		count[e]++
		if _, area, f := cutting.Assign(s.wants, s.sheets); e == api.OK && (f != api.OK || c.Area < area) {
			t.Error("less area", s, c, area, f)
		}
		if _, f := cutting.Cut(s.wants, s.sheets, bite); e == api.OK && f != api.OK {
			t.Error("accepted, but not cut", s, c, f)
		}
	}
	for range 300 {
		s := cutScene(d)
		c, e := cutting.Cut(s.wants, s.sheets, 1)
		if e != api.OK {
			continue
		}
		check(s, 0, c)
		for range 30 {
			once := spoiled(d, s, c)
			check(s, 1, once)
			check(s, 1, spoiled(d, s, once))
		}
		other := s
		other.sheets = slices.Delete(slices.Clone(s.sheets), 1, 2)
		check(other, 1, c)
	}
	if count[api.OK] < 500 || count[api.ErrRoom] < 1000 || count[api.ErrScore] < 5000 || count[api.ErrWaste] < 100 {
		t.Error("few", count)
	}
}

// maker throws cuttings that can be carried out, of any area.
type maker struct {
	*rand.Rand
	scene
	bite int
	out  api.Cutting
}

// make lays wants at thrown places of thrown sheets. It fails often.
func (m *maker) make() bool {
	m.out = api.Cutting{Placed: make([]api.Placed, len(m.wants))}
	groups := map[int][]int{}
	for k, w := range m.wants {
		sheet := m.sheets[m.Intn(len(m.sheets))]
		if sheet.Colour != w.Colour {
			return false
		}
		groups[sheet.ID] = append(groups[sheet.ID], k)
	}
	for _, sheet := range m.sheets {
		if len(groups[sheet.ID]) > 0 {
			m.out.Area += sheet.W * sheet.H
		}
		if !m.lay(sheet, box{at(0, 0), at(sheet.W, sheet.H)}, groups[sheet.ID]) {
			return false
		}
	}
	return true
}

// split divides a box at a line, if that leaves something on both sides, and returns the near and the far part.
func (m *maker) split(sheet int, b box, upright bool, by int) (near, far box) {
	near, far = b, b
	if upright {
		near.high.X, far.low.X = b.low.X+by, b.low.X+by
	} else {
		near.high.Y, far.low.Y = b.low.Y+by, b.low.Y+by
	}
	if near.area() > 0 && far.area() > 0 {
		m.out.Scores = append(m.out.Scores, api.Score{Sheet: sheet, Kind: api.ScoreSplit, Points: []api.Point{far.low, near.high}})
	}
	return near, far
}

// lay divides a box for some wants at thrown lines.
func (m *maker) lay(s api.Sheet, b box, some []int) bool {
	w, h := b.high.X-b.low.X, b.high.Y-b.low.Y
	upright := m.Intn(2) == 0
	if w < 2 || h < 2 {
		return len(some) == 0
	}
	if len(some) == 0 {
		if m.Intn(3) == 0 {
			m.split(s.ID, b, upright, 1)
		}
		return true
	}
	if len(some) == 1 {
		return m.layOne(s, b, some[0], upright)
	}
	var here, there []int
	for _, k := range some {
		if m.Intn(2) == 0 {
			here = append(here, k)
		} else {
			there = append(there, k)
		}
	}
	by := 1 + m.Intn(w-1)
	if !upright {
		by = 1 + m.Intn(h-1)
	}
	near, far := m.split(s.ID, b, upright, by)
	return m.lay(s, far, there) && m.lay(s, near, here)
}

// layOne lays a want at a thrown place of a box, and frees it at once.
func (m *maker) layOne(s api.Sheet, b box, k int, upright bool) bool {
	w := m.wants[k]
	allowed := turns(w, s.Grain)
	turn := allowed[m.Intn(len(allowed))]
	size := sizeOf(w, turn)
	more := at(b.high.X-b.low.X-size.W, b.high.Y-b.low.Y-size.H)
	if more.X < 0 || more.Y < 0 {
		return false
	}
	for range 2 {
		by, side := m.Intn(more.X+1), size.W
		if !upright {
			by, side = m.Intn(more.Y+1), size.H
		}
		_, b = m.split(s.ID, b, upright, by)
		b, _ = m.split(s.ID, b, upright, side)
		upright = !upright
	}
	m.out.Placed[k] = api.Placed{Want: w.ID, Sheet: s.ID, Turn: turn, At: b.low}
	return m.free(w, m.out.Placed[k])
}

// free appends the hull scores of a want and a thrown lawful division of each pocket, the pockets mixed.
func (m *maker) free(w api.Want, p api.Placed) bool {
	var hull []api.Score
	var pockets [][]api.Score
	for _, e := range hullEdges(w.Outline) {
		a, b := w.Outline[e[0]], w.Outline[e[1]]
		if a.X != b.X && a.Y != b.Y {
			hull = append(hull, api.Score{Kind: api.ScoreHull, Points: []api.Point{a, b}})
		}
		pocket := api.Pocket{From: e[0], To: e[1]}
		if e[1] == (e[0]+1)%len(w.Outline) {
			continue
		}
		all := divisions(rowOf(w.Outline, pocket))
		var bites []api.Score
		for _, b := range all[m.Intn(len(all))] {
			u, v, x := w.Outline[b.A], w.Outline[b.B], w.Outline[b.C]
			if !lawful(u, v, x, m.bite) {
				return false
			}
			bites = append(bites, api.Score{Kind: api.ScoreBite, Points: []api.Point{u, v, x}})
		}
		pockets = append(pockets, bites)
	}
	m.out.Scores = append(m.out.Scores, placedScores(w, p, append(hull, mixed(m.Rand, pockets)...))...)
	return true
}

// mixed returns the elements of all lists, those of one list in order.
func mixed(d *rand.Rand, lists [][]api.Score) []api.Score {
	var out []api.Score
	for len(lists) > 0 {
		k := d.Intn(len(lists))
		if len(lists[k]) == 0 {
			lists = slices.Delete(lists, k, k+1)
			continue
		}
		out = append(out, lists[k][0])
		lists[k] = lists[k][1:]
	}
	return out
}

// TestThrownCuttings checks that each cutting that can be carried out is accepted, and has at least the area that Assign returns (P5.4, P0.4).
func TestThrownCuttings(t *testing.T) {
	d := rand.New(rand.NewSource(10))
	made, wasteful, several := 0, 0, 0
	for range 4000 {
		m := maker{Rand: d, scene: cutScene(d), bite: 1}
		if !m.make() {
			continue
		}
		made++
		if e, k := cutting.Check(m.wants, m.sheets, 1, m.out); e != api.OK || k != 0 {
			t.Fatal("not accepted", m.scene, m.out, e, k)
		}
		_, area, e := cutting.Assign(m.wants, m.sheets)
		if e != api.OK || m.out.Area < area {
			t.Error("less area", m.scene, m.out, area, e)
		}
		for _, x := range []int{area, m.out.Area + 1} {
			if is, e := cutting.Least(m.wants, m.sheets, x); is != (x == area) || e != api.OK {
				t.Error("Least", m.scene, x, is, e)
			}
		}
		if m.out.Area > area {
			wasteful++
		}
		if len(m.wants) > 1 {
			several++
		}
	}
	if made < 500 || wasteful < 100 || several < 100 {
		t.Error("few", made, wasteful, several)
	}
}

package evidence_test

import (
	"maps"
	"math"
	"math/rand"
	"slices"
	"testing"

	"leadlight/api"
	"leadlight/evidence"
	"leadlight/glass"
	"leadlight/plane"
	"leadlight/web"
)

// at is a point.
func at(x, y int) api.Point { return api.Point{X: x, Y: y} }

// span is the span from lo to hi, and only is the span of one number.
func span(lo, hi int) api.Span { return api.Span{Lo: lo, Hi: hi} }
func only(n int) api.Span      { return span(n, n) }

func mark(edge, at, tone int) api.Mark { return api.Mark{Edge: edge, At: at, Tone: tone} }

// turned and over are settings without Back and with it.
func turned(shift int) api.Setting { return api.Setting{Shift: shift} }
func over(shift int) api.Setting   { return api.Setting{Shift: shift, Back: true} }

// glazed and fresh are options: a piece in the setting {0, false}, and new glass.
func glazed(piece, colour int) api.Option { return api.Option{Piece: piece, Colour: colour} }
func fresh(colour int) api.Option         { return api.Option{Colour: colour} }

// relead is a releading.
func relead(year int, panes ...int) api.Relead { return api.Relead{Year: year, Panes: panes} }

// build returns the web of the joints 1, 2, .. at points, and of the leads 1, 2, .. between pairs of them, with flanges of 2.
func build(points []api.Point, pairs ...[2]int) api.Web {
	var w api.Web
	for k, p := range points {
		w.Joints = append(w.Joints, api.Joint{ID: k + 1, At: p})
	}
	for k, p := range pairs {
		w.Leads = append(w.Leads, api.Lead{ID: k + 1, A: p[0], B: p[1], Left: 2, Right: 2})
	}
	return w
}

// crossed returns the web of the polygon of the first n points, with further leads across.
func crossed(n int, points []api.Point, across ...[2]int) api.Web {
	var pairs [][2]int
	for k := range n {
		pairs = append(pairs, [2]int{k + 1, (k+1)%n + 1})
	}
	return build(points, append(pairs, across...)...)
}

// ring returns the web of a closed polygon.
func ring(points ...api.Point) api.Web { return crossed(len(points), points) }

// beside returns the web of both webs; w lies to the right, and its IDs are greater by 1000.
func beside(v, w api.Web, right int) api.Web {
	for _, j := range w.Joints {
		v.Joints = append(v.Joints, api.Joint{ID: j.ID + 1000, At: at(j.At.X+right, j.At.Y)})
	}
	for _, l := range w.Leads {
		l.ID, l.A, l.B = l.ID+1000, l.A+1000, l.B+1000
		v.Leads = append(v.Leads, l)
	}
	return v
}

// lattice returns the web of columns by rows of square panes.
func lattice(columns, rows int) api.Web {
	var points []api.Point
	var pairs [][2]int
	for x := range columns + 1 {
		for y := range rows + 1 {
			points = append(points, at(2*x, 2*y))
			id := len(points)
			if y < rows {
				pairs = append(pairs, [2]int{id, id + 1})
			}
			if x < columns {
				pairs = append(pairs, [2]int{id + rows + 1, id})
			}
		}
	}
	return build(points, pairs...)
}

// exampleWeb is the web Q of the examples of layer 2, with flanges of 2.
func exampleWeb() api.Web {
	return build([]api.Point{at(0, 0), at(4, 0), at(4, 4), at(0, 4), at(4, 2)}, [2]int{1, 2}, [2]int{2, 5}, [2]int{5, 3}, [2]int{3, 4}, [2]int{4, 1}, [2]int{1, 5})
}

// example is the case of the chapter's examples.
func example() api.Case {
	g := []api.Gauge{{Edge: only(16), Across: only(20), Bend: 1}, {Edge: only(4), Across: only(16), Bend: 1}, {Edge: only(20), Across: only(4), Bend: 1}}
	p := api.Piece{ID: 1, Colour: 1, Reverse: 2, Made: 1300, Gauges: g, Marks: []api.Mark{mark(0, 4, 1)}}
	return api.Case{Web: exampleWeb(), Palette: 2, Pieces: []api.Piece{p}}
}

// keptItem is the item 7 of the chapter's examples.
func keptItem() api.Item {
	return api.Item{ID: 7, Kind: api.ItemKept, Year: 1400, Piece: 1, Panes: []int{1}}
}

// knownWebs are sound webs of each shape that matters for whole leads and flanges.
func knownWebs() map[string]api.Web {
	return map[string]api.Web{
		"example":      exampleWeb(),
		"one pane":     ring(at(0, 0), at(4, 0), at(0, 4)),
		"two leads":    crossed(6, []api.Point{at(0, 0), at(2, 0), at(4, 0), at(4, 4), at(2, 4), at(0, 4), at(2, 2)}, [2]int{2, 7}, [2]int{7, 5}),
		"bent":         crossed(6, []api.Point{at(0, 0), at(2, 0), at(4, 0), at(4, 4), at(2, 4), at(0, 4), at(3, 2)}, [2]int{2, 7}, [2]int{7, 5}),
		"two to one":   crossed(7, []api.Point{at(0, 0), at(2, 0), at(4, 0), at(4, 2), at(4, 4), at(2, 4), at(0, 4), at(2, 2)}, [2]int{2, 8}, [2]int{8, 6}, [2]int{8, 4}),
		"lattice":      lattice(2, 2),
		"row":          lattice(3, 1),
		"apart":        beside(lattice(2, 1), exampleWeb(), 6),
		"straight rim": ring(at(0, 0), at(1, 0), at(3, 0), at(4, 0), at(4, 2), at(4, 4), at(0, 4), at(0, 1)),
	}
}

// sample is a valid case, with its panes, the least flange of each, and the panes and edges along each whole lead.
type sample struct {
	api.Case
	panes  []api.Pane
	narrow []int
	whole  map[int]sides
}

// sides are the pane on the left of a whole lead and the index of its edge, and those on the right.
type sides struct{ a, edge, b, other int }

func newSample(c api.Case) sample {
	panes, _ := web.Panes(c.Web)
	s := sample{c, panes, nil, map[int]sides{}}
	for _, pane := range panes {
		s.narrow = append(s.narrow, s.leastFlange(pane))
	}
	for _, l := range c.Web.Leads {
		a, edge := s.alone(api.Side{Lead: l.ID})
		b, other := s.alone(api.Side{Lead: l.ID, Back: true})
		if a > 0 && b > 0 {
			s.whole[l.ID] = sides{a, edge, b, other}
		}
	}
	return s
}

// someYears are years around which everything happens.
func someYears() []int { return []int{0, 1, 2, 3, 4, 5, 6, 7, 8, 9998, 9999} }

func thrownYear(d *rand.Rand) int { return someYears()[d.Intn(11)] }

// thrownSpan throws a span from 0 to most that is not empty.
func thrownSpan(d *rand.Rand, most int) api.Span {
	n, m := d.Intn(most+1), d.Intn(most+1)
	return span(min(n, m), max(n, m))
}

// part returns a thrown part of the numbers 1 to most that is not empty.
func part(d *rand.Rand, most int) []int {
	var out []int
	for n := range most {
		if d.Intn(2) == 0 {
			out = append(out, n+1)
		}
	}
	if len(out) == 0 {
		return []int{1 + d.Intn(most)}
	}
	return out
}

// thrownPiece throws a piece that fits a pane, as it is known, more or less well.
func thrownPiece(d *rand.Rand, id int, pane api.Pane) api.Piece {
	n := len(pane.Outline)
	g, _ := glass.Gauges(pane.Outline)
	g, _ = glass.Widen(g, []int{0, 0, 1, 5, 30}[d.Intn(5)])
	for k := range g {
		if d.Intn(3) == 0 {
			g[k].Bend = 0
		}
	}
	p := api.Piece{ID: id, Colour: 1 + d.Intn(3), Reverse: 1 + d.Intn(4), Made: thrownYear(d), Swell: d.Intn(5) - 3, Gauges: g}
	for edge := range n {
		for at := 4; at <= 12; at += 4 {
			if d.Intn(8) == 0 {
				p.Marks = append(p.Marks, mark(edge, at, 1+d.Intn(5)/4))
			}
		}
	}
	p, _ = glass.Reset(p, api.Setting{Shift: d.Intn(n), Back: d.Intn(2) == 0})
	return p
}

// thrownItem throws a valid item of a kind; false, if there is none.
func (s sample) thrownItem(d *rand.Rand, id, kind int) (api.Item, bool) {
	x := api.Item{ID: id, Kind: kind, Year: thrownYear(d)}
	n := len(s.panes)
	switch kind {
	case api.ItemPhoto:
		x.Film = 1 + d.Intn(len(s.Films))
		for range 1 + d.Intn(3) {
			x.Sights = append(x.Sights, api.Sight{Pane: 1 + d.Intn(n), Grey: thrownSpan(d, 255)})
		}
	case api.ItemRubbing:
		for range 1 + d.Intn(3) {
			pane := s.panes[d.Intn(n)]
			x.Sights = append(x.Sights, api.Sight{Pane: pane.ID, Edge: d.Intn(len(pane.Outline)), At: thrownSpan(d, 16), Count: thrownSpan(d, 2)})
		}
	case api.ItemInventory:
		x.Panes, x.Colours, x.Count = part(d, n), part(d, 4), thrownSpan(d, n)
	case api.ItemKept:
		if len(s.Pieces) == 0 {
			return x, false
		}
		x.Piece = s.Pieces[d.Intn(len(s.Pieces))].ID
		if d.Intn(3) > 0 {
			x.Panes = part(d, n)
		}
	case api.ItemPaint:
		all := slices.Sorted(maps.Keys(s.whole))
		if len(all) == 0 {
			return x, false
		}
		x.Lead, x.Slack = all[d.Intn(len(all))], []int{0, 4, 8, 16}[d.Intn(4)]
	case api.ItemSurvivors:
		x.Panes, x.Count = part(d, n), thrownSpan(d, n)
	case api.ItemFace:
		x.Panes = part(d, n)
	}
	return x, true
}

// thrownCase throws a case of a web: some pieces, two films, items of all kinds, and releadings.
func thrownCase(d *rand.Rand, w api.Web) sample {
	w.Leads = slices.Clone(w.Leads)
	for k := range w.Leads {
		l := &w.Leads[k]
		l.Left, l.Right = 1+d.Intn(3), 1+d.Intn(3)
		if d.Intn(2) == 0 {
			l.A, l.B = l.B, l.A
		}
	}
	s := newSample(api.Case{Web: w, Palette: 1 + d.Intn(3), Films: []api.Film{{ID: 1, Grey: []int{0, 100, 200}}, {ID: 2, Grey: []int{90, 90, 20, 255}}}})
	id := 0
	for range d.Intn(2 + len(s.panes)) {
		id += 1 + d.Intn(3)
		s.Pieces = append(s.Pieces, thrownPiece(d, id, s.panes[d.Intn(len(s.panes))]))
	}
	id = 0
	for range d.Intn(6) {
		id += 1 + d.Intn(3)
		if x, ok := s.thrownItem(d, id, 1+d.Intn(7)); ok {
			s.Items = append(s.Items, x)
		}
	}
	for range d.Intn(4) {
		s.Releads = append(s.Releads, relead(thrownYear(d), part(d, len(s.panes))...))
	}
	return s
}

// samples are valid cases of all kinds.
func samples() []sample {
	full := example()
	full.Items = []api.Item{keptItem()}
	full.Releads = []api.Relead{relead(1350, 1)}
	out := []sample{newSample(example()), newSample(full)}
	d := rand.New(rand.NewSource(6))
	for range 30 {
		for _, name := range []string{"example", "one pane", "two leads", "bent", "two to one", "lattice", "row", "apart", "straight rim"} {
			out = append(out, thrownCase(d, knownWebs()[name]))
		}
	}
	return out
}

// TestSamples checks that the samples are valid, and of many kinds.
func TestSamples(t *testing.T) {
	count := map[string]int{}
	for _, s := range samples() {
		if e, at := evidence.Check(s.Case); e != api.OK || at != 0 {
			t.Fatal("no valid sample", s, e, at)
		}
		for _, x := range s.Items {
			count[[]string{"", "photo", "rubbing", "inventory", "kept", "paint", "survivors", "face"}[x.Kind]]++
			for _, year := range someYears() {
				if s.silencer(x, year) >= 0 {
					count["silent"]++
				}
			}
		}
		for _, pane := range s.panes {
			for _, o := range s.options(pane.ID, 9999) {
				if o.Setting.Back {
					count["back"]++
				}
				if o.Setting.Shift > 0 {
					count["shift"]++
				}
			}
			for _, p := range s.Pieces {
				if !s.held(pane, p) {
					count["not held"]++
				}
			}
		}
	}
	for _, name := range []string{"photo", "rubbing", "inventory", "kept", "paint", "survivors", "face", "silent", "back", "shift", "not held"} {
		if count[name] < 50 {
			t.Error("few", name, count)
		}
	}
}

// extremes are the ends of the numbers.
func extremes() []int { return []int{math.MinInt, math.MinInt + 1, math.MaxInt - 1, math.MaxInt} }

// What follows says anew, from the chapter's terms, what the package computes.

// in reports whether n lies in a span.
func in(n int, s api.Span) bool { return s.Lo <= n && n <= s.Hi }

// leastFlange returns the least flange along the edges of a pane.
func (s sample) leastFlange(pane api.Pane) int {
	least := math.MaxInt
	for _, edge := range pane.Edges {
		for _, side := range edge {
			flange, _ := web.Flange(s.Web, side)
			least = min(least, flange)
		}
	}
	return least
}

// held reports whether the flanges of a pane hold a piece.
func (s sample) held(pane api.Pane, p api.Piece) bool { return -p.Swell <= s.narrow[pane.ID-1] }

// alone returns the pane and the edge that a side alone makes up, if there is one.
func (s sample) alone(side api.Side) (pane, edge int) {
	id, _ := web.PaneAt(s.Web, side)
	if id == 0 {
		return 0, 0
	}
	at := slices.IndexFunc(s.panes[id-1].Edges, func(l []api.Side) bool { return slices.Equal(l, []api.Side{side}) })
	if at < 0 {
		return 0, 0
	}
	return id, at
}

// fitting returns the settings by which a piece fits a pane that holds it.
func (s sample) fitting(pane api.Pane, p api.Piece) []api.Setting {
	var out []api.Setting
	for shift := range p.Gauges {
		for _, set := range []api.Setting{turned(shift), over(shift)} {
			if fits, e := glass.Fits(p, pane.Outline, set); fits && e == api.OK && s.held(pane, p) {
				out = append(out, set)
			}
		}
	}
	return out
}

// options returns the options of a pane in a year.
func (s sample) options(pane, year int) []api.Option {
	var out []api.Option
	for _, p := range s.Pieces {
		for _, set := range s.fitting(s.panes[pane-1], p) {
			o := api.Option{Piece: p.ID, Setting: set, Colour: p.Colour}
			if set.Back {
				o.Colour = p.Reverse
			}
			if p.Made <= year {
				out = append(out, o)
			}
		}
	}
	for colour := 1; colour <= s.Palette; colour++ {
		out = append(out, fresh(colour))
	}
	return out
}

// allOptions returns the options of all panes in a year.
func (s sample) allOptions(year int) [][]api.Option {
	var out [][]api.Option
	for _, pane := range s.panes {
		out = append(out, s.options(pane.ID, year))
	}
	return out
}

// piece returns the piece with an ID.
func (s sample) piece(id int) api.Piece {
	return s.Pieces[slices.IndexFunc(s.Pieces, func(p api.Piece) bool { return p.ID == id })]
}

// marked returns the marks that an option shows on an edge.
func (s sample) marked(o api.Option, edge int) []api.Mark {
	var out []api.Mark
	if o.Piece == 0 {
		return nil
	}
	p := s.piece(o.Piece)
	for _, m := range p.Marks {
		m.Edge, _ = plane.Edge(o.Setting, len(p.Gauges), m.Edge)
		if o.Setting.Back {
			m.At = 16 - m.At
		}
		if m.Edge == edge {
			out = append(out, m)
		}
	}
	slices.SortFunc(out, func(m, n api.Mark) int { return slices.Compare([]int{m.At, m.Tone}, []int{n.At, n.Tone}) })
	return out
}

// isNamed reports whether an item names a pane.
func (s sample) isNamed(x api.Item, pane int) bool {
	if x.Kind == api.ItemPaint {
		return pane == s.whole[x.Lead].a || pane == s.whole[x.Lead].b
	}
	if x.Kind == api.ItemKept && len(x.Panes) == 0 {
		return true
	}
	return slices.Contains(x.Panes, pane) || slices.ContainsFunc(x.Sights, func(v api.Sight) bool { return v.Pane == pane })
}

// silencer returns the index of the first releading that silences an item for a year, or -1.
func (s sample) silencer(x api.Item, year int) int {
	for k, r := range s.Releads {
		for _, pane := range r.Panes {
			between := x.Year < r.Year && r.Year <= year || year < r.Year && r.Year <= x.Year
			if between && s.isNamed(x, pane) {
				return k
			}
		}
	}
	return -1
}

// shows reports whether what a sight says is true of the option of its pane.
func (s sample) shows(x api.Item, v api.Sight, o api.Option) bool {
	if x.Kind == api.ItemPhoto {
		film := s.Films[x.Film-1]
		return o.Colour <= len(film.Grey) && in(film.Grey[o.Colour-1], v.Grey)
	}
	n := 0
	for _, m := range s.marked(o, v.Edge) {
		if in(m.At, v.At) {
			n++
		}
	}
	return o.Piece == 0 || in(n, v.Count)
}

// runOn reports whether one of the two options along a whole lead is lost, or the marks along it run on.
func (s sample) runOn(x api.Item, a, b api.Option) bool {
	at := s.whole[x.Lead]
	_, e := glass.RunOn(s.marked(a, at.edge), s.marked(b, at.other), x.Slack)
	return a.Piece == 0 || b.Piece == 0 || e == api.OK
}

// obeys reports whether what an item says is true of a filling, by the table of the items.
func (s sample) obeys(x api.Item, l []api.Option) bool {
	var shown, held, kept, back int
	for _, pane := range x.Panes {
		o := l[pane-1]
		if slices.Contains(x.Colours, o.Colour) {
			shown++
		}
		if o.Piece > 0 {
			held++
		}
		if o.Piece == x.Piece {
			kept++
		}
		if o.Piece > 0 && o.Setting.Back {
			back++
		}
	}
	switch x.Kind {
	case api.ItemInventory:
		return in(shown, x.Count)
	case api.ItemSurvivors:
		return in(held, x.Count)
	case api.ItemFace:
		return back == 0
	case api.ItemKept:
		if len(x.Panes) > 0 {
			return kept == 1
		}
		return !slices.ContainsFunc(l, func(o api.Option) bool { return o.Piece == x.Piece })
	case api.ItemPaint:
		at := s.whole[x.Lead]
		return s.runOn(x, l[at.a-1], l[at.b-1])
	}
	for _, v := range x.Sights {
		if !s.shows(x, v, l[v.Pane-1]) {
			return false
		}
	}
	return true
}

package plans_test

import (
	"math"
	"math/rand"
	"slices"
	"sync"
	"testing"

	"leadlight/api"
	"leadlight/cutting"
	"leadlight/evidence"
	"leadlight/glass"
	"leadlight/leading"
	"leadlight/plans"
	"leadlight/web"
)

// at is a point.
func at(x, y int) api.Point { return api.Point{X: x, Y: y} }

// only is the span of one number.
func only(n int) api.Span { return api.Span{Lo: n, Hi: n} }

// glazed and fresh are options: a piece in the setting {0, false}, and new glass.
func glazed(piece, colour int) api.Option { return api.Option{Piece: piece, Colour: colour} }
func fresh(colour int) api.Option         { return api.Option{Colour: colour} }

// heldGlass and heldPiece are what was found in a pane.
func heldGlass(pane, colour int) api.Held { return api.Held{Pane: pane, Colour: colour} }
func heldPiece(pane, piece int) api.Held  { return api.Held{Pane: pane, Piece: piece} }

// build returns the web of the joints 1, 2, .. at points, and of the leads 1, 2, .. between pairs of them, with flanges of 2, the Give 1 and the Cost 10.
func build(points []api.Point, pairs ...[2]int) api.Web {
	var w api.Web
	for k, p := range points {
		w.Joints = append(w.Joints, api.Joint{ID: k + 1, At: p})
	}
	for k, p := range pairs {
		w.Leads = append(w.Leads, api.Lead{ID: k + 1, A: p[0], B: p[1], Left: 2, Right: 2, Give: 1, Cost: 10})
	}
	return w
}

// crossed returns the web of the polygon of the first n points, with further leads across.
func crossed(n int, points []api.Point, across ...[2]int) api.Web {
	var pairs [][2]int
	for k := range n {
		pairs = append(pairs, [2]int{k + 1, (k+1)%n + 1})
	}
	return build(points, append(pairs, across...)...)
}

// lattice returns the web of columns by rows of square panes, which are numbered upwards in each column. The first leads are those at the left.
func lattice(columns, rows int) api.Web {
	var points []api.Point
	var pairs [][2]int
	for x := range columns + 1 {
		for y := range rows + 1 {
			points = append(points, at(2*x, 2*y))
			id := len(points)
			if y < rows {
				pairs = append(pairs, [2]int{id, id + 1})
			}
			if x < columns {
				pairs = append(pairs, [2]int{id, id + rows + 1})
			}
		}
	}
	return build(points, pairs...)
}

// beside returns the web of both webs; w lies to the right, and its IDs are greater by 1000.
func beside(v, w api.Web, right int) api.Web {
	for _, j := range w.Joints {
		v.Joints = append(v.Joints, api.Joint{ID: j.ID + 1000, At: at(j.At.X+right, j.At.Y)})
	}
	for _, l := range w.Leads {
		l.ID, l.A, l.B = l.ID+1000, l.A+1000, l.B+1000
		v.Leads = append(v.Leads, l)
	}
	return v
}

// exampleWeb is the web Q of the examples of layer 2.
func exampleWeb() api.Web {
	return build([]api.Point{at(0, 0), at(4, 0), at(4, 4), at(0, 4), at(4, 2)}, [2]int{1, 2}, [2]int{2, 5}, [2]int{5, 3}, [2]int{3, 4}, [2]int{4, 1}, [2]int{1, 5})
}

// example is the job J of the chapter's examples.
func example() api.Job {
	g := []api.Gauge{{Edge: only(16), Across: only(20), Bend: 1}, {Edge: only(4), Across: only(16), Bend: 1}, {Edge: only(20), Across: only(4), Bend: 1}}
	p := api.Piece{ID: 1, Colour: 1, Reverse: 2, Made: 1300, Gauges: g, Marks: []api.Mark{{Edge: 0, At: 4, Tone: 1}}}
	c := api.Case{Web: exampleWeb(), Palette: 2, Pieces: []api.Piece{p}}
	return api.Job{Case: c, Year: 1400, Open: []int{3, 4}, Pins: []api.Pin{{Joint: 1, Play: 1}}, Found: []api.Held{heldGlass(1, 2)}, Turn: 1, Move: 2, New: 5}
}

// planned is the job of the chapter's examples for which there is a plan.
func planned() api.Job {
	j := example()
	j.Found = append(j.Found, heldGlass(2, 1))
	j.Case.Items = []api.Item{{ID: 7, Kind: api.ItemKept, Year: 1400, Piece: 1, Panes: []int{1}}}
	return j
}

// full is planned with more of everything: a film, a releading and sheets.
func full() api.Job {
	j := planned()
	j.Case.Films = []api.Film{{ID: 1, Grey: []int{5}}}
	j.Case.Releads = []api.Relead{{Year: 1350, Panes: []int{1}}}
	j.Sheets = []api.Sheet{{ID: 1, Colour: 1, W: 8, H: 8}, {ID: 3, Colour: 2, W: 8, H: 8}}
	j.Bite = 2
	return j
}

// knownWebs are sound webs with few panes.
func knownWebs() []api.Web {
	return []api.Web{
		exampleWeb(),
		crossed(3, []api.Point{at(0, 0), at(4, 0), at(0, 4)}),
		crossed(4, []api.Point{at(0, 0), at(4, 0), at(4, 4), at(0, 4)}, [2]int{1, 3}),
		crossed(4, []api.Point{at(0, 0), at(4, 0), at(4, 4), at(0, 4), at(2, 2)}, [2]int{1, 5}, [2]int{2, 5}, [2]int{3, 5}, [2]int{4, 5}),
		crossed(6, []api.Point{at(0, 0), at(2, 0), at(4, 0), at(4, 4), at(2, 4), at(0, 4), at(3, 2)}, [2]int{2, 7}, [2]int{7, 5}),
		lattice(2, 1), lattice(3, 1), lattice(2, 2),
		beside(lattice(2, 1), exampleWeb(), 6),
		// a pane amid four other ones
		build([]api.Point{at(0, 0), at(6, 0), at(6, 6), at(0, 6), at(2, 2), at(4, 2), at(4, 4), at(2, 4)},
			[2]int{1, 2}, [2]int{2, 3}, [2]int{3, 4}, [2]int{4, 1}, [2]int{5, 6}, [2]int{6, 7}, [2]int{7, 8}, [2]int{8, 5}, [2]int{1, 5}, [2]int{2, 6}, [2]int{3, 7}, [2]int{4, 8}),
	}
}

// known is a valid job, with its panel, its panes, their options, the panes on both sides of each lead, and the feasible sets, in order.
type known struct {
	api.Job
	panel   api.Panel
	panes   []api.Pane
	options [][]api.Option
	sides   map[int][]int
	sets    [][]int
}

func know(j api.Job) known {
	k := known{Job: j, panel: api.Panel{Web: j.Case.Web, Open: j.Open, Pins: j.Pins}, sides: map[int][]int{}}
	k.panes, _ = web.Panes(j.Case.Web)
	for _, pane := range k.panes {
		l, _ := evidence.Options(j.Case, pane.ID, j.Year)
		k.options = append(k.options, l)
	}
	for _, l := range j.Case.Web.Leads {
		left, _ := web.PaneAt(j.Case.Web, api.Side{Lead: l.ID})
		right, _ := web.PaneAt(j.Case.Web, api.Side{Lead: l.ID, Back: true})
		k.sides[l.ID] = []int{left, right}
	}
	for _, set := range lists(len(k.panes)) {
		if is, _ := leading.Feasible(k.panel, set); is {
			k.sets = append(k.sets, set)
		}
	}
	return k
}

// lists returns all increasing lists of the numbers 1 to n, in order.
func lists(n int) [][]int {
	var out [][]int
	for bits := range 1 << n {
		var l []int
		for k := range n {
			if bits>>k&1 == 1 {
				l = append(l, k+1)
			}
		}
		out = append(out, l)
	}
	slices.SortFunc(out, slices.Compare[[]int])
	return out
}

// part returns a thrown part of the numbers 1 to n.
func part(d *rand.Rand, n int) []int {
	all := lists(n)
	return all[d.Intn(len(all))]
}

// some returns a thrown part of the numbers 1 to n that is not empty.
func some(d *rand.Rand, n int) []int {
	return lists(n)[1+d.Intn(1<<n-1)]
}

// thrownPiece throws a piece that fits one of the panes, as it is known, more or less well.
func thrownPiece(d *rand.Rand, id int, panes []api.Pane) api.Piece {
	pane := panes[d.Intn(len(panes))]
	g, _ := glass.Gauges(pane.Outline)
	g, _ = glass.Widen(g, []int{0, 0, 0, 1, 5}[d.Intn(5)])
	p := api.Piece{ID: id, Colour: 1 + d.Intn(2), Reverse: 1 + d.Intn(3), Made: d.Intn(2), Swell: []int{-3, -1, 0, 0, 0, 0, 1, 2}[d.Intn(8)], Gauges: g}
	p, _ = glass.Reset(p, api.Setting{Shift: d.Intn(len(g)), Back: d.Intn(2) == 0})
	return p
}

// thrownItem throws an item.
func thrownItem(d *rand.Rand, c api.Case, id, panes int) api.Item {
	x := api.Item{ID: id, Year: d.Intn(4), Panes: some(d, panes)}
	lo := d.Intn(2)
	count := api.Span{Lo: lo, Hi: lo + d.Intn(len(x.Panes)+1)}
	switch k := d.Intn(4); {
	case k == 0 && len(c.Pieces) > 0:
		x.Kind, x.Piece = api.ItemKept, c.Pieces[d.Intn(len(c.Pieces))].ID
	case k < 2:
		x.Kind, x.Count, x.Colours = api.ItemInventory, count, []int{1 + d.Intn(2)}
	case k == 2:
		x.Kind, x.Count = api.ItemSurvivors, count
	default:
		x.Kind = api.ItemFace
	}
	return x
}

// thrownCase throws a case of a web.
func thrownCase(d *rand.Rand, w api.Web) api.Case {
	w.Leads = slices.Clone(w.Leads)
	for k := range w.Leads {
		l := &w.Leads[k]
		l.Give, l.Cost, l.Heart = 1+d.Intn(3), []int{0, 1, 2, 5, 10, 20}[d.Intn(6)], d.Intn(5)/4
		if d.Intn(2) == 0 {
			l.A, l.B = l.B, l.A
		}
	}
	panes, _ := web.Panes(w)
	c := api.Case{Web: w, Palette: 1 + d.Intn(2)}
	for k := range d.Intn(5) {
		c.Pieces = append(c.Pieces, thrownPiece(d, 2*k+1, panes))
	}
	for k := range d.Intn(4) {
		c.Items = append(c.Items, thrownItem(d, c, k+1, len(panes)))
	}
	for range d.Intn(3) {
		c.Releads = append(c.Releads, api.Relead{Year: d.Intn(4), Panes: some(d, len(panes))})
	}
	return c
}

// thrownFound throws what was found: pieces in any panes, new glass, and now and then nothing.
func thrownFound(d *rand.Rand, c api.Case, panes int) []api.Held {
	var out []api.Held
	pieces := d.Perm(len(c.Pieces))
	for pane := 1; pane <= panes; pane++ {
		switch k := d.Intn(8); {
		case k == 0:
		case k < 5 && len(pieces) > 0:
			h := heldPiece(pane, c.Pieces[pieces[0]].ID)
			h.Setting = api.Setting{Shift: d.Intn(4), Back: d.Intn(3) == 0}
			out = append(out, h)
			pieces = pieces[1:]
		default:
			out = append(out, heldGlass(pane, 1+d.Intn(c.Palette)))
		}
	}
	return out
}

// frame returns the frame leads of a sound web, and the frame joints of each component.
func frame(w api.Web) (leads []int, joints [][]int) {
	panes, _ := web.Panes(w)
	for _, p := range panes {
		along, _ := web.Between(w, 0, p.ID)
		leads = append(leads, along...)
	}
	slices.Sort(leads)
	parts, _ := web.Components(w)
	for _, members := range parts {
		var rim []int
		for _, l := range w.Leads {
			if slices.Contains(leads, l.ID) && slices.Contains(members, l.A) {
				rim = append(rim, l.A, l.B)
			}
		}
		slices.Sort(rim)
		joints = append(joints, slices.Compact(rim))
	}
	return leads, joints
}

// thrownJob throws a valid job of a web with at most so many fillings.
func thrownJob(d *rand.Rand, w api.Web, most int) known {
	for {
		c := thrownCase(d, w)
		panes, _ := web.Panes(w)
		j := api.Job{Case: c, Year: d.Intn(4), Found: thrownFound(d, c, len(panes)), Bite: d.Intn(3), Turn: d.Intn(4), Move: d.Intn(6), New: d.Intn(9)}
		leads, joints := frame(w)
		opened := 1 + d.Intn(3)
		for _, l := range leads {
			if d.Intn(4) < opened {
				j.Open = append(j.Open, l)
			}
		}
		for _, rim := range joints {
			j.Pins = append(j.Pins, api.Pin{Joint: rim[d.Intn(len(rim))], Play: d.Intn(3)})
		}
		for k := range d.Intn(5) {
			j.Sheets = append(j.Sheets, api.Sheet{ID: 3*k + 1, Colour: 1 + d.Intn(c.Palette), W: 2 + d.Intn(6), H: 2 + d.Intn(6), Grain: d.Intn(3)})
		}
		if n, e := evidence.Space(c, j.Year); e == api.OK && n <= most && plans.Check(j) == api.OK {
			return know(j)
		}
	}
}

// samples are valid jobs of all kinds.
var samples = sync.OnceValue(func() []known {
	out := []known{know(example()), know(planned()), know(full())}
	d := rand.New(rand.NewSource(8))
	for range 22 {
		for _, w := range knownWebs() {
			out = append(out, thrownJob(d, w, 150))
		}
	}
	return out
})

// extremes are the ends of the numbers.
func extremes() []int { return []int{math.MinInt, math.MinInt + 1, math.MaxInt - 1, math.MaxInt} }

// What follows says anew, from the chapter's terms, what the package computes.

// fillings returns all fillings, in order.
func (k known) fillings() [][]api.Option {
	out := [][]api.Option{nil}
	for _, l := range k.options {
		var longer [][]api.Option
		for _, f := range out {
			for _, o := range l {
				longer = append(longer, append(slices.Clone(f), o))
			}
		}
		out = longer
	}
	return out
}

// foundIn returns what was found in a pane.
func (k known) foundIn(pane int) (api.Held, bool) {
	for _, h := range k.Found {
		if h.Pane == pane {
			return h, true
		}
	}
	return api.Held{}, false
}

// wantChange is rule J3.
func (k known) wantChange(pane int, o api.Option) int {
	h, filled := k.foundIn(pane)
	if o.Piece > 0 {
		if filled && h.Piece == o.Piece && h.Setting == o.Setting {
			return 0
		}
		if filled && h.Piece == o.Piece {
			return 1
		}
		return 2
	}
	if filled && h.Piece == 0 && h.Colour == o.Colour {
		return 0
	}
	return 3
}

// wantPrice returns the sum of the prices of the options of the first panes.
func (k known) wantPrice(l []api.Option) int {
	sum := 0
	for i, o := range l {
		sum += []int{0, k.Turn, k.Move, k.New}[k.wantChange(i+1, o)]
	}
	return sum
}

// wantChanged returns the panes that the options of the first panes change.
func (k known) wantChanged(l []api.Option) []int {
	var out []int
	for i, o := range l {
		if k.wantChange(i+1, o) != 0 {
			out = append(out, i+1)
		}
	}
	return out
}

// chosen is some options, each with its pane.
type chosen map[int]api.Option

// all returns the options of the first panes.
func all(l []api.Option) chosen {
	c := chosen{}
	for i, o := range l {
		c[i+1] = o
	}
	return c
}

// wantNeeds returns the needs of chosen options.
func (k known) wantNeeds(c chosen) []api.Need {
	var out []api.Need
	for pane := 1; pane <= len(k.panes); pane++ {
		o, is := c[pane]
		if !is {
			continue
		}
		swell := 0
		for _, p := range k.Case.Pieces {
			if p.ID == o.Piece {
				swell = p.Swell
			}
		}
		w, _ := leading.NeedOf(k.panel, pane, swell)
		out = append(out, api.Need{Pane: pane, W: w})
	}
	return out
}

// wantWants returns the wants of chosen options.
func (k known) wantWants(c chosen) []api.Want {
	var out []api.Want
	for pane := 1; pane <= len(k.panes); pane++ {
		if o, is := c[pane]; is && k.wantChange(pane, o) == 3 {
			out = append(out, api.Want{ID: pane, Colour: o.Colour, Outline: k.panes[pane-1].Outline})
		}
	}
	return out
}

// wantCutting returns the cutting of chosen options; false, if their wants cannot be cut.
func (k known) wantCutting(c chosen) (api.Cutting, bool) {
	wants := k.wantWants(c)
	if len(wants) == 0 {
		return api.Cutting{}, true
	}
	cut, e := cutting.Cut(wants, k.Sheets, k.Bite)
	return cut, e == api.OK && len(wants) <= 7
}

// wantJudge is rule J9.
func (k known) wantJudge(l []api.Option) api.Errno {
	spoken, _ := evidence.Spoken(k.Case, k.Year)
	for _, item := range spoken {
		if obeys, _ := evidence.Obeys(k.Case, item, k.Year, l); !obeys {
			return api.ErrAgree
		}
	}
	if twice(all(l)) {
		return api.ErrAgree
	}
	if _, e := leading.Close(k.panel, k.wantNeeds(all(l))); e != api.OK {
		return api.ErrClose
	}
	if _, ok := k.wantCutting(all(l)); !ok {
		return api.ErrGlass
	}
	return api.OK
}

// twice reports whether two chosen options have the same piece.
func twice(c chosen) bool {
	for a, o := range c {
		for b, p := range c {
			if a != b && o.Piece > 0 && o.Piece == p.Piece {
				return true
			}
		}
	}
	return false
}

// contains reports whether a list has all elements of another one.
func contains(l, part []int) bool {
	for _, n := range part {
		if !slices.Contains(l, n) {
			return false
		}
	}
	return true
}

// wantLeads returns the sum of the Cost of the leads around a set.
func (k known) wantLeads(set []int) int {
	sum := 0
	for _, l := range k.Case.Web.Leads {
		if slices.ContainsFunc(k.sides[l.ID], func(pane int) bool { return slices.Contains(set, pane) }) {
			sum += l.Cost
		}
	}
	return sum
}

// wantCheapest returns the first of the feasible sets with some panes that have the least price, if there is one.
func (k known) wantCheapest(panes []int) (set []int, price int, ok bool) {
	for _, s := range k.sets {
		if n := k.wantLeads(s); contains(s, panes) && (!ok || n < price) {
			set, price, ok = s, n, true
		}
	}
	return set, price, ok
}

// wanted is the cheapest plan of a job, or the error that tells why there is none.
type wanted struct {
	cost    int
	filling []api.Option
	set     []int
	e       api.Errno
}

// wantPlan is rule J13, by all fillings with all liftings.
func (k known) wantPlan() wanted {
	out := wanted{e: api.ErrAgree}
	for _, f := range k.fillings() {
		if e := k.wantJudge(f); e != api.OK {
			out.e = later(out.e, e)
			continue
		}
		set, price, ok := k.wantCheapest(k.wantChanged(f))
		if !ok {
			out.e = later(out.e, api.ErrLift)
			continue
		}
		if cost := price + k.wantPrice(f); out.e != api.OK || cost < out.cost {
			out = wanted{cost, f, set, api.OK}
		}
	}
	return out
}

// later returns the one of two errors that comes later on the way to a plan; none comes last.
func later(e, f api.Errno) api.Errno {
	way := []api.Errno{api.ErrAgree, api.ErrClose, api.ErrGlass, api.ErrLift, api.OK}
	if slices.Index(way, e) > slices.Index(way, f) {
		return e
	}
	return f
}

// wantHeld returns what the panes hold with a filling.
func wantHeld(l []api.Option) []api.Held {
	var out []api.Held
	for i, o := range l {
		if o.Piece > 0 {
			out = append(out, api.Held{Pane: i + 1, Piece: o.Piece, Setting: o.Setting})
		} else {
			out = append(out, heldGlass(i+1, o.Colour))
		}
	}
	return out
}

// plansOf are the cheapest plans of the samples.
var plansOf = sync.OnceValue(func() []wanted {
	var out []wanted
	for _, k := range samples() {
		out = append(out, k.wantPlan())
	}
	return out
})

// TestSamples checks that the samples are valid, and of many kinds.
func TestSamples(t *testing.T) {
	count := map[api.Errno]int{}
	kinds := map[string]int{}
	for i, k := range samples() {
		if e := plans.Check(k.Job); e != api.OK {
			t.Fatal("no valid sample", k.Job, e)
		}
		p := plansOf()[i]
		count[p.e]++
		changed := k.wantChanged(p.filling)
		if len(p.set) > len(changed) {
			kinds["lifted besides"]++
		}
		for _, pane := range changed {
			kinds[[]string{"", "turned", "moved", "new"}[k.wantChange(pane, p.filling[pane-1])]]++
		}
		if p.e == api.OK && len(changed) == 0 {
			kinds["nothing to do"]++
		}
		if len(k.Found) < len(k.panes) {
			kinds["empty panes"]++
		}
	}
	for e, least := range map[api.Errno]int{api.OK: 60, api.ErrAgree: 8, api.ErrClose: 8, api.ErrGlass: 8, api.ErrLift: 8} {
		if count[e] < least {
			t.Error("few", e, count)
		}
	}
	for _, name := range []string{"lifted besides", "turned", "moved", "new", "nothing to do", "empty panes"} {
		if kinds[name] < 8 {
			t.Error("few", name, kinds)
		}
	}
}

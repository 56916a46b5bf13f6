package leading_test

import (
	"cmp"
	"math"
	"math/rand"
	"slices"
	"testing"

	"leadlight/api"
	"leadlight/plane"
	"leadlight/web"
)

// at is a point.
func at(x, y int) api.Point { return api.Point{X: x, Y: y} }

// build returns the web of the joints 1, 2, .. at points, and of the leads 1, 2, .. between pairs of them.
func build(points []api.Point, pairs ...[2]int) api.Web {
	var w api.Web
	for k, p := range points {
		w.Joints = append(w.Joints, api.Joint{ID: k + 1, At: p})
	}
	for k, p := range pairs {
		w.Leads = append(w.Leads, api.Lead{ID: k + 1, A: p[0], B: p[1]})
	}
	return w
}

// ring returns the web of a closed polygon.
func ring(points ...api.Point) api.Web {
	var pairs [][2]int
	for k := range points {
		pairs = append(pairs, [2]int{k + 1, (k+1)%len(points) + 1})
	}
	return build(points, pairs...)
}

// square returns the web of one square pane.
func square(side int) api.Web { return ring(at(0, 0), at(side, 0), at(side, side), at(0, side)) }

// pins pins joints without play.
func pins(joints ...int) []api.Pin {
	var out []api.Pin
	for _, j := range joints {
		out = append(out, api.Pin{Joint: j})
	}
	return out
}

// example is the panel P of the chapter's examples, with some open leads.
func example(open ...int) api.Panel {
	w := build([]api.Point{at(0, 0), at(4, 0), at(4, 4), at(0, 4), at(4, 2)}, [2]int{1, 2}, [2]int{2, 5}, [2]int{5, 3}, [2]int{3, 4}, [2]int{4, 1}, [2]int{1, 5})
	for k := range w.Leads {
		w.Leads[k].Give, w.Leads[k].Cost = 1, 10
	}
	return api.Panel{Web: w, Open: open, Pins: pins(1)}
}

// lattice returns the web of columns by rows of square panes, which are numbered upwards in each column. The first leads are those at the left, and the joint 1 is the low corner.
func lattice(columns, rows, side int) api.Web {
	var points []api.Point
	var pairs [][2]int
	for x := range columns + 1 {
		for y := range rows + 1 {
			points = append(points, at(side*x, side*y))
			id := len(points)
			if y < rows {
				pairs = append(pairs, [2]int{id, id + 1})
			}
			if x < columns {
				pairs = append(pairs, [2]int{id, id + rows + 1})
			}
		}
	}
	return build(points, pairs...)
}

// beside returns the web of both webs; w lies to the right, and its IDs are greater by 1000.
func beside(v, w api.Web, right int) api.Web {
	v.Joints, v.Leads = slices.Clone(v.Joints), slices.Clone(v.Leads)
	for _, j := range w.Joints {
		v.Joints = append(v.Joints, api.Joint{ID: j.ID + 1000, At: at(j.At.X+right, j.At.Y)})
	}
	for _, l := range w.Leads {
		l.ID, l.A, l.B = l.ID+1000, l.A+1000, l.B+1000
		v.Leads = append(v.Leads, l)
	}
	return v
}

// frame returns the frame leads of a sound web, and the frame joints of each component.
func frame(w api.Web) (leads []int, joints [][]int) {
	leads, _ = web.Between(w, 0, 0)
	panes, _ := web.Panes(w)
	for _, p := range panes {
		at, _ := web.Between(w, 0, p.ID)
		leads = append(leads, at...)
	}
	slices.Sort(leads)
	parts, _ := web.Components(w)
	for _, part := range parts {
		var some []int
		for _, l := range w.Leads {
			if slices.Contains(leads, l.ID) && slices.Contains(part, l.A) {
				some = append(some, l.A, l.B)
			}
		}
		slices.Sort(some)
		joints = append(joints, slices.Compact(some))
	}
	return leads, joints
}

// thrownWeb returns a sound web with a few joints on a grid of size by size points: leads are laid until no more go in, and then some are taken away.
func thrownWeb(d *rand.Rand, size, most int) api.Web {
	for {
		points := map[api.Point]bool{}
		for range 3 + most/2 + d.Intn(most/2) {
			points[at(d.Intn(size), d.Intn(size))] = true
		}
		var w api.Web
		id := 0
		for x := range size {
			for y := range size {
				if points[at(x, y)] {
					id += 1 + d.Intn(3)
					w.Joints = append(w.Joints, api.Joint{ID: id, At: at(x, y)})
				}
			}
		}
		d.Shuffle(len(w.Joints), func(i, k int) { w.Joints[i].At, w.Joints[k].At = w.Joints[k].At, w.Joints[i].At })
		w = thinned(d, filled(d, w))
		if web.Sound(w) == api.OK {
			return w
		}
	}
}

// filled lays all leads that meet no earlier ones.
func filled(d *rand.Rand, w api.Web) api.Web {
	var pairs [][2]int
	for i := range w.Joints {
		for k := range i {
			pairs = append(pairs, [2]int{w.Joints[i].ID, w.Joints[k].ID})
		}
	}
	d.Shuffle(len(pairs), func(i, k int) { pairs[i], pairs[k] = pairs[k], pairs[i] })
	id := 0
	for _, p := range pairs {
		k := d.Intn(2)
		id += 1 + d.Intn(3)
		w.Leads = append(w.Leads, api.Lead{ID: id, A: p[k], B: p[1-k], Heart: d.Intn(65), Left: d.Intn(65), Right: d.Intn(65), Give: d.Intn(4), Cost: d.Intn(100)})
		if e, _ := web.Check(w); e != api.OK {
			w.Leads = w.Leads[:len(w.Leads)-1]
		}
	}
	return w
}

// thinned takes away some leads by which a web does not fall apart.
func thinned(d *rand.Rand, w api.Web) api.Web {
	for range d.Intn(1 + len(w.Leads)/2) {
		k := d.Intn(len(w.Leads))
		less := api.Web{Joints: w.Joints, Leads: slices.Delete(slices.Clone(w.Leads), k, k+1)}
		if web.Sound(less) == api.OK {
			w = less
		}
	}
	return w
}

// framed returns a panel of a web, with some of the frame leads open and some of the frame joints pinned.
func framed(d *rand.Rand, w api.Web, opened int) api.Panel {
	leads, parts := frame(w)
	p := api.Panel{Web: w}
	for _, l := range leads {
		if d.Intn(100) < opened {
			p.Open = append(p.Open, l)
		}
	}
	for _, part := range parts {
		sure := d.Intn(len(part))
		for k, j := range part {
			if k == sure || d.Intn(4) == 0 {
				p.Pins = append(p.Pins, api.Pin{Joint: j, Play: d.Intn(4)})
			}
		}
	}
	return p
}

// known is a panel, with its panes and the pane of each side.
type known struct {
	api.Panel
	panes []api.Pane
	face  map[api.Side]int
}

func know(p api.Panel) known {
	k := known{Panel: p, face: map[api.Side]int{}}
	k.panes, _ = web.Panes(p.Web)
	for _, pane := range k.panes {
		for _, s := range slices.Concat(pane.Edges...) {
			k.face[s] = pane.ID
		}
	}
	return k
}

// samples are valid panels of all kinds, with at most 12 panes each.
func samples() []known {
	single := ring(at(0, 0), at(4, 0), at(0, 3))
	cross := lattice(2, 2, 3)
	two := beside(square(3), lattice(2, 1, 2), 5)
	notched := ring(at(0, 0), at(6, 0), at(6, 6), at(4, 6), at(4, 2), at(2, 2), at(2, 6), at(0, 6))
	out := []known{
		know(api.Panel{}),
		know(example()), know(example(3)), know(example(4)), know(example(3, 4)), know(example(1, 2, 3, 4, 5)),
		know(api.Panel{Web: single, Pins: pins(2)}),
		know(api.Panel{Web: single, Open: []int{1, 2, 3}, Pins: pins(2)}),
		know(api.Panel{Web: cross, Open: []int{1}, Pins: pins(1)}),
		know(api.Panel{Web: two, Open: []int{2, 1001}, Pins: pins(1, 1002)}),
		know(api.Panel{Web: notched, Open: []int{5}, Pins: pins(3)}),
	}
	d := rand.New(rand.NewSource(1))
	for k := range 90 {
		w := thrownWeb(d, 3+k%4, 4+k%7)
		if k%10 == 0 {
			w = beside(w, thrownWeb(d, 3, 3), 7)
		}
		if s := know(framed(d, w, []int{10, 30, 60, 90}[k%4])); len(s.panes) <= 12 {
			out = append(out, s)
		}
	}
	return out
}

// TestSamples checks that the samples are valid, and of many kinds.
func TestSamples(t *testing.T) {
	count := map[string]int{}
	all := samples()
	for _, s := range all {
		if !web.ValidPanel(s.Panel) {
			t.Error("no valid sample", s.Panel)
		}
		if len(s.panes) > 3 {
			count["panes"]++
		}
		for _, p := range s.panes {
			for k, edge := range p.Edges {
				if len(edge) > 1 {
					count["straight"]++
				}
				if bends, _ := plane.Bends(p.Outline); bends[k] < 0 {
					count["notches"]++
				}
			}
		}
		if _, ok := s.wantPositions(nil, 0); ok {
			count["closing"]++
		}
		for _, x := range s.someNeeds(rand.New(rand.NewSource(1))) {
			if _, ok := s.wantPositions(x, 0); !ok {
				count["loops"]++
			}
		}
	}
	for name, least := range map[string]int{"panes": 30, "straight": 15, "notches": 20, "closing": len(all), "loops": 50} {
		if count[name] < least {
			t.Error("few", name, count[name], len(all))
		}
	}
}

// someLists are lists of panes: none, all, each alone, and thrown ones.
func (s known) someLists(d *rand.Rand) [][]int {
	out := [][]int{nil, s.all()}
	for _, p := range s.panes {
		out = append(out, []int{p.ID})
	}
	for range 4 {
		out = append(out, part(d, s.all()))
	}
	return out
}

// part returns a thrown part of a list.
func part(d *rand.Rand, l []int) []int {
	var out []int
	for _, x := range l {
		if d.Intn(3) > 0 {
			out = append(out, x)
		}
	}
	return out
}

// someNeeds are lists of needs: none, great ones, and thrown ones.
func (s known) someNeeds(d *rand.Rand) [][]api.Need {
	out := [][]api.Need{nil}
	for _, reach := range []int{2, 4, 8} {
		var needs []api.Need
		for _, pane := range part(d, s.all()) {
			needs = append(needs, api.Need{Pane: pane, W: d.Intn(2*reach+1) - reach})
		}
		out = append(out, needs)
	}
	if len(s.panes) > 0 {
		out = append(out, []api.Need{{Pane: len(s.panes), W: api.MaxNeed}}, []api.Need{{Pane: 1, W: -api.MaxNeed}})
	}
	return out
}

// all is the list of all panes.
func (s known) all() []int {
	var out []int
	for _, p := range s.panes {
		out = append(out, p.ID)
	}
	return out
}

// What follows says anew, from the chapter's terms, what the package computes.

// beyond returns the pane on the reverse of a side, or 0.
func (s known) beyond(side api.Side) int {
	side.Back = !side.Back
	return s.face[side]
}

// wantBlocked is rule N1.
func (s known) wantBlocked(present []int, pane int) []int {
	var out []int
	for k, edge := range s.panes[pane-1].Edges {
		blocked := false
		for _, side := range edge {
			next := s.beyond(side)
			if next == 0 {
				blocked = blocked || !slices.Contains(s.Open, side.Lead)
			} else {
				blocked = blocked || slices.Contains(present, next)
			}
		}
		if blocked {
			out = append(out, k)
		}
	}
	return out
}

// normalsOf returns the outward normals of edges: the vectors along them, turned to the right.
func (s known) normalsOf(pane int, edges []int) []api.Point {
	l := s.panes[pane-1].Outline
	var out []api.Point
	for _, k := range edges {
		p, q := l[k], l[(k+1)%len(l)]
		out = append(out, at(q.Y-p.Y, -(q.X-p.X)))
	}
	return out
}

// leave reports whether normals leave a direction: if they do, there is half a turn without any of them.
func leave(normals []api.Point) bool {
	var angles []float64
	for _, n := range normals {
		angles = append(angles, math.Atan2(float64(n.Y), float64(n.X)))
	}
	slices.Sort(angles)
	for k, a := range angles {
		next := angles[(k+1)%len(angles)]
		if k == len(angles)-1 {
			next += 2 * math.Pi
		}
		if next-a > math.Pi-1e-9 {
			return true
		}
	}
	return len(normals) == 0
}

// wantWays returns the panes, present or absent, that have a way out.
func (s known) wantWays(present []int) []int {
	var out []int
	for {
		n := len(out)
		for _, p := range s.panes {
			way := func(side api.Side) bool {
				next := s.beyond(side)
				return next == 0 && slices.Contains(s.Open, side.Lead) || slices.Contains(out, next) && !slices.Contains(present, next)
			}
			if !slices.Contains(out, p.ID) && slices.ContainsFunc(slices.Concat(p.Edges...), way) {
				out = append(out, p.ID)
			}
		}
		if len(out) == n {
			slices.Sort(out)
			return out
		}
	}
}

// wantFrees is rule N6.
func (s known) wantFrees(present []int) []int {
	ways := s.wantWays(present)
	var out []int
	for _, pane := range present {
		if slices.Contains(ways, pane) && leave(s.normalsOf(pane, s.wantBlocked(present, pane))) {
			out = append(out, pane)
		}
	}
	return out
}

// wantTaken takes the least free pane of a set out of present ones until none is left.
func (s known) wantTaken(present, set []int) []int {
	var out []int
	for {
		frees := both(s.wantFrees(present), set)
		if len(frees) == 0 {
			return out
		}
		out = append(out, frees[0])
		present = minus(present, frees[:1])
	}
}

// wantFeasible tries all orders.
func (s known) wantFeasible(set []int) bool {
	failed := map[int]bool{}
	var comes func(present, left []int) bool
	comes = func(present, left []int) bool {
		key := 0
		for _, pane := range left {
			key |= 1 << pane
		}
		if len(left) == 0 || failed[key] {
			return len(left) == 0
		}
		for _, pane := range both(s.wantFrees(present), left) {
			if comes(minus(present, []int{pane}), minus(left, []int{pane})) {
				return true
			}
		}
		failed[key] = true
		return false
	}
	return comes(s.all(), set)
}

// both returns the elements of l that are in m, too.
func both(l, m []int) []int {
	return slices.DeleteFunc(slices.Clone(l), func(x int) bool { return !slices.Contains(m, x) })
}

// minus returns the elements of l that are not in m.
func minus(l, m []int) []int {
	return slices.DeleteFunc(slices.Clone(l), func(x int) bool { return slices.Contains(m, x) })
}

// union returns the elements of both lists, increasing.
func union(l, m []int) []int {
	out := slices.Concat(l, minus(m, l))
	slices.Sort(out)
	return out
}

// subsets returns all parts of a list.
func subsets(l []int) [][]int {
	out := [][]int{nil}
	for _, x := range l {
		for _, some := range slices.Clone(out) {
			out = append(out, append(slices.Clone(some), x))
		}
	}
	return out
}

// wantOpened is rule N14.
func (s known) wantOpened(set []int) []int {
	var out []int
	for _, l := range s.Web.Leads {
		if slices.Contains(set, s.face[api.Side{Lead: l.ID}]) || slices.Contains(set, s.face[api.Side{Lead: l.ID, Back: true}]) {
			out = append(out, l.ID)
		}
	}
	return out
}

// lead returns the lead with an ID.
func (s known) lead(id int) api.Lead {
	return s.Web.Leads[slices.IndexFunc(s.Web.Leads, func(l api.Lead) bool { return l.ID == id })]
}

// wantCorners is rule N17: the corners are sorted in each of the four ways.
func (s known) wantCorners(pane int) [4]int {
	var out [4]int
	for k, compare := range []func(p, q api.Point) int{
		func(p, q api.Point) int { return cmp.Or(p.X-q.X, p.Y-q.Y) },
		func(p, q api.Point) int { return cmp.Or(q.X-p.X, p.Y-q.Y) },
		func(p, q api.Point) int { return cmp.Or(p.Y-q.Y, p.X-q.X) },
		func(p, q api.Point) int { return cmp.Or(q.Y-p.Y, p.X-q.X) },
	} {
		first := slices.SortedFunc(slices.Values(s.panes[pane-1].Outline), compare)[0]
		for _, j := range s.Web.Joints {
			if j.At == first {
				out[k] = j.ID
			}
		}
	}
	return out
}

// drawn returns a coordinate of a joint, or of the origin.
func (s known) drawn(joint, axis int) int {
	for _, j := range s.Web.Joints {
		if j.ID == joint {
			return []int{j.At.X, j.At.Y}[axis]
		}
	}
	return 0
}

// wantBounds is rule N18.
func (s known) wantBounds(needs []api.Need, axis int) []api.Bound {
	var out []api.Bound
	for _, l := range s.Web.Leads {
		d := s.drawn(l.B, axis) - s.drawn(l.A, axis)
		out = append(out, api.Bound{From: l.A, To: l.B, Most: d + l.Give, Kind: 1, ID: l.ID}, api.Bound{From: l.B, To: l.A, Most: l.Give - d, Kind: 2, ID: l.ID})
	}
	for _, p := range s.Pins {
		v := s.drawn(p.Joint, axis)
		out = append(out, api.Bound{From: 0, To: p.Joint, Most: v + p.Play, Kind: 3, ID: p.Joint}, api.Bound{From: p.Joint, To: 0, Most: p.Play - v, Kind: 4, ID: p.Joint})
	}
	for _, n := range needs {
		c := s.wantCorners(n.Pane)
		low, high := c[2*axis], c[2*axis+1]
		out = append(out, api.Bound{From: high, To: low, Most: s.drawn(low, axis) - s.drawn(high, axis) - n.W, Kind: 5, ID: n.Pane})
	}
	return out
}

// distances returns how far each joint, and the origin, can be at most from each other one, by the sums along all chains of bounds; they are false if a chain leads back below 0.
func (s known) distances(needs []api.Need, axis int) (map[[2]int]int, bool) {
	ids := []int{0}
	for _, j := range s.Web.Joints {
		ids = append(ids, j.ID)
	}
	const never = 1 << 40
	n := len(ids)
	most := make([][]int, n)
	for i := range most {
		most[i] = slices.Repeat([]int{never}, n)
		most[i][i] = 0
	}
	for _, b := range s.wantBounds(needs, axis) {
		i, k := slices.Index(ids, b.From), slices.Index(ids, b.To)
		most[i][k] = min(most[i][k], b.Most)
	}
	for m := range n {
		for i := range n {
			for k := range n {
				most[i][k] = min(most[i][k], most[i][m]+most[m][k])
			}
		}
		// Sums along a loop below 0 would go on to fall without end.
		for i := range n {
			if most[i][i] < 0 {
				return nil, false
			}
		}
	}
	out := map[[2]int]int{}
	for i := range n {
		for k := range n {
			out[[2]int{ids[i], ids[k]}] = most[i][k]
		}
	}
	return out, true
}

// wantPositions returns how far the joints can be from the origin: at most, or, if side is 1, at least.
func (s known) wantPositions(needs []api.Need, side int) ([]api.Position, bool) {
	x, closesX := s.distances(needs, 0)
	y, closesY := s.distances(needs, 1)
	if !closesX || !closesY {
		return nil, false
	}
	var out []api.Position
	for _, j := range s.Web.Joints {
		p := at(x[[2]int{0, j.ID}], y[[2]int{0, j.ID}])
		if side == 1 {
			p = at(-x[[2]int{j.ID, 0}], -y[[2]int{j.ID, 0}])
		}
		out = append(out, api.Position{Joint: j.ID, At: p})
	}
	return out, true
}

// isLoop is the term loop.
func (s known) isLoop(needs []api.Need, l api.Loop) bool {
	if l.Axis != 0 && l.Axis != 1 || len(l.Bounds) == 0 {
		return false
	}
	all := s.wantBounds(needs, l.Axis)
	sum := 0
	for k, b := range l.Bounds {
		if b.To != l.Bounds[(k+1)%len(l.Bounds)].From || !slices.Contains(all, b) {
			return false
		}
		sum += b.Most
	}
	return sum < 0
}

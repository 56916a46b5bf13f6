package web_test

import (
	"maps"
	"math"
	"math/rand"
	"slices"
	"testing"

	"leadlight/api"
	"leadlight/plane"
	"leadlight/web"
)

// at is a point.
func at(x, y int) api.Point { return api.Point{X: x, Y: y} }

// fwd and back are the sides of a lead.
func fwd(lead int) api.Side  { return api.Side{Lead: lead} }
func back(lead int) api.Side { return api.Side{Lead: lead, Back: true} }

// build returns the web of the joints 1, 2, .. at points, and of the leads 1, 2, .. between pairs of them.
func build(points []api.Point, pairs ...[2]int) api.Web {
	var w api.Web
	for k, p := range points {
		w.Joints = append(w.Joints, api.Joint{ID: k + 1, At: p})
	}
	for k, p := range pairs {
		w.Leads = append(w.Leads, api.Lead{ID: k + 1, A: p[0], B: p[1]})
	}
	return w
}

// ring returns the web of a closed polygon.
func ring(points ...api.Point) api.Web {
	var pairs [][2]int
	for k := range points {
		pairs = append(pairs, [2]int{k + 1, (k+1)%len(points) + 1})
	}
	return build(points, pairs...)
}

// square returns the web of a square with the low corner p.
func square(p api.Point, side int) api.Web {
	return ring(p, at(p.X+side, p.Y), at(p.X+side, p.Y+side), at(p.X, p.Y+side))
}

// beside returns the web of both webs; to the IDs of the second one so many thousands are added that they are greater.
func beside(v, w api.Web) api.Web {
	up := 1000
	if n := len(v.Joints); n > 0 {
		up += v.Joints[n-1].ID / 1000 * 1000
	}
	out := copyOf(v)
	for _, j := range w.Joints {
		out.Joints = append(out.Joints, api.Joint{ID: j.ID + up, At: j.At})
	}
	for _, l := range w.Leads {
		l.ID, l.A, l.B = l.ID+up, l.A+up, l.B+up
		out.Leads = append(out.Leads, l)
	}
	return out
}

// moved returns a web that lies elsewhere.
func moved(w api.Web, x, y int) api.Web {
	out := copyOf(w)
	for k := range out.Joints {
		out.Joints[k].At.X += x
		out.Joints[k].At.Y += y
	}
	return out
}

// copyOf returns a web that shares no memory with w.
func copyOf(w api.Web) api.Web {
	return api.Web{Joints: slices.Clone(w.Joints), Leads: slices.Clone(w.Leads)}
}

func sameWeb(v, w api.Web) bool {
	return slices.Equal(v.Joints, w.Joints) && slices.Equal(v.Leads, w.Leads)
}

// example is the web Q of the chapter's examples.
func example() api.Web {
	return build([]api.Point{at(0, 0), at(4, 0), at(4, 4), at(0, 4), at(4, 2)}, [2]int{1, 2}, [2]int{2, 5}, [2]int{5, 3}, [2]int{3, 4}, [2]int{4, 1}, [2]int{1, 5})
}

// lattice returns the web of columns by rows of square panes.
func lattice(columns, rows int) api.Web {
	var points []api.Point
	var pairs [][2]int
	for x := range columns + 1 {
		for y := range rows + 1 {
			points = append(points, at(3*x, 3*y))
			id := len(points)
			if y < rows {
				pairs = append(pairs, [2]int{id + 1, id})
			}
			if x < columns {
				pairs = append(pairs, [2]int{id, id + rows + 1})
			}
		}
	}
	return build(points, pairs...)
}

// mostLeads returns a web of 400 leads: squares, some of them with a diagonal.
func mostLeads() api.Web {
	w := lattice(13, 13)
	for k := 0; len(w.Leads) < 400; k++ {
		if k%14 < 13 {
			w.Leads = append(w.Leads, api.Lead{ID: len(w.Leads) + 1, A: k + 1, B: k + 16})
		}
	}
	return w
}

// bowl returns the web of a convex polygon with n corners.
func bowl(n int) api.Web {
	var points []api.Point
	for k := range n {
		points = append(points, at(k, k*k))
	}
	return ring(points...)
}

// knownWebs are valid webs of each shape that the chapter names.
func knownWebs() map[string]api.Web {
	nested := beside(square(at(0, 0), 9), square(at(3, 3), 2))
	hanging := square(at(0, 0), 6)
	hanging.Joints = append(hanging.Joints, api.Joint{ID: 5, At: at(2, 3)})
	hanging.Leads = append(hanging.Leads, api.Lead{ID: 5, A: 5, B: 1})
	return map[string]api.Web{
		"nothing":       {},
		"a joint":       build([]api.Point{at(3, 3)}),
		"a lead":        build([]api.Point{at(3, 3), at(5, 0)}, [2]int{2, 1}),
		"two leads":     build([]api.Point{at(3, 3), at(5, 0), at(5, 4)}, [2]int{2, 1}, [2]int{2, 3}),
		"star":          build([]api.Point{at(3, 3), at(6, 3), at(5, 5), at(3, 7), at(2, 4), at(0, 3), at(2, 2), at(3, 0), at(4, 2)}, [2]int{1, 2}, [2]int{3, 1}, [2]int{1, 4}, [2]int{5, 1}, [2]int{1, 6}, [2]int{7, 1}, [2]int{1, 8}, [2]int{9, 1}),
		"example":       example(),
		"two between":   build([]api.Point{at(0, 0), at(4, 0), at(4, 4), at(0, 4), at(4, 2), at(2, 1)}, [2]int{1, 2}, [2]int{2, 5}, [2]int{5, 3}, [2]int{3, 4}, [2]int{4, 1}, [2]int{1, 6}, [2]int{5, 6}),
		"apart":         beside(square(at(0, 0), 3), square(at(5, 1), 2)),
		"nested":        nested,
		"nested twice":  beside(nested, build([]api.Point{at(12, 0), at(14, 0), at(12, 2)}, [2]int{1, 2}, [2]int{2, 3}, [2]int{3, 1})),
		"in a notch":    beside(ring(at(0, 0), at(9, 0), at(9, 9), at(6, 9), at(6, 3), at(3, 3), at(3, 9), at(0, 9)), square(at(4, 5), 1)),
		"pinch":         build([]api.Point{at(3, 3), at(6, 3), at(3, 6), at(0, 3), at(3, 0)}, [2]int{1, 2}, [2]int{2, 3}, [2]int{3, 1}, [2]int{1, 4}, [2]int{4, 5}, [2]int{5, 1}),
		"pinch inside":  build([]api.Point{at(0, 0), at(8, 0), at(0, 8), at(3, 1), at(1, 3)}, [2]int{1, 2}, [2]int{2, 3}, [2]int{3, 1}, [2]int{1, 4}, [2]int{4, 5}, [2]int{5, 1}),
		"bridge":        build([]api.Point{at(0, 0), at(2, 0), at(0, 2), at(6, 0), at(8, 0), at(8, 2)}, [2]int{1, 2}, [2]int{2, 3}, [2]int{3, 1}, [2]int{2, 4}, [2]int{4, 5}, [2]int{5, 6}, [2]int{6, 4}),
		"hanging":       hanging,
		"square, joint": beside(square(at(0, 0), 3), build([]api.Point{at(5, 5)})),
		"whole grid":    square(at(0, 0), api.MaxCoord),
		"64 panes":      lattice(8, 8),
		"65 panes":      lattice(13, 5),
		"24 corners":    bowl(24),
		"25 corners":    bowl(25),
		"straight":      ring(at(0, 0), at(1, 0), at(2, 0), at(3, 0), at(4, 0), at(5, 0), at(6, 0), at(6, 1), at(6, 2), at(6, 3), at(6, 4), at(6, 5), at(6, 6), at(5, 6), at(4, 6), at(3, 6), at(2, 6), at(1, 6), at(0, 6), at(0, 5), at(0, 4), at(0, 3), at(0, 2), at(0, 1), at(1, 1)),
	}
}

// thrownWeb returns a valid web with up to most joints on a grid of size by size points. The fewer leads are left out, the more likely it is sound.
func thrownWeb(d *rand.Rand, size, most, leftOut int) api.Web {
	var w api.Web
	id := 0
	for range 1 + d.Intn(most) {
		id += 1 + d.Intn(3)
		p := at(d.Intn(size), d.Intn(size))
		if !slices.ContainsFunc(w.Joints, func(j api.Joint) bool { return j.At == p }) {
			w.Joints = append(w.Joints, api.Joint{ID: id, At: p})
		}
	}
	var pairs [][2]int
	for i := range w.Joints {
		for k := range i {
			pairs = append(pairs, [2]int{w.Joints[i].ID, w.Joints[k].ID})
		}
	}
	d.Shuffle(len(pairs), func(i, k int) { pairs[i], pairs[k] = pairs[k], pairs[i] })
	id = 0
	plain := d.Intn(2) == 0
	for _, p := range pairs {
		if d.Intn(100) < leftOut {
			continue
		}
		id += 1 + d.Intn(3)
		k := d.Intn(2)
		l := api.Lead{ID: id, A: p[k], B: p[1-k], Heart: d.Intn(65), Left: d.Intn(65), Right: d.Intn(65), Give: d.Intn(65), Cost: d.Intn(1000001)}
		if plain {
			l = api.Lead{ID: id, A: l.A, B: l.B}
		}
		w.Leads = append(w.Leads, l)
		if !clear(w, l) {
			w.Leads = w.Leads[:len(w.Leads)-1]
		}
	}
	return w
}

// someWebs are valid webs of all kinds. Large ones have tests of their own.
func someWebs() []api.Web {
	var out []api.Web
	known := knownWebs()
	for _, name := range slices.Sorted(maps.Keys(known)) {
		if w := known[name]; len(w.Joints) <= 30 {
			out = append(out, w)
		}
	}
	d := rand.New(rand.NewSource(2))
	for k := range 400 {
		out = append(out, thrownWeb(d, 3+k%5, 2+k%11, []int{0, 5, 20, 50, 80}[k%5]))
	}
	for range 150 {
		v := thrownWeb(d, 4, 6, 0)
		for k := range v.Joints {
			v.Joints[k].At.X *= 9
			v.Joints[k].At.Y *= 9
		}
		both := beside(v, square(at(d.Intn(28), d.Intn(28)), 1+d.Intn(2)))
		if e, _ := wantCheck(both); e == api.OK {
			out = append(out, both)
		}
	}
	return out
}

// soundWebs are those of someWebs that are sound.
func soundWebs() []api.Web {
	var out []api.Web
	for _, w := range someWebs() {
		if web.Sound(w) == api.OK {
			out = append(out, w)
		}
	}
	return out
}

// TestSamples checks that there are samples of each soundness.
func TestSamples(t *testing.T) {
	count := map[api.Errno]int{}
	for _, w := range someWebs() {
		if e, id := wantCheck(w); e != api.OK {
			t.Error("no valid sample", w, e, id)
		}
		count[wantSound(w)]++
	}
	if count[api.OK] < 50 || count[api.ErrApart] < 50 || count[api.ErrNested] < 10 || count[api.ErrLimit] < 1 {
		t.Error("few samples", count)
	}
}

// What follows says anew, from the chapter's terms, what the package computes.

// pointOf returns the point of a joint.
func pointOf(w api.Web, joint int) api.Point {
	return w.Joints[slices.IndexFunc(w.Joints, func(j api.Joint) bool { return j.ID == joint })].At
}

// endsOf returns the IDs of the joints at which a side begins and ends.
func endsOf(w api.Web, s api.Side) (from, to int) {
	l := w.Leads[slices.IndexFunc(w.Leads, func(l api.Lead) bool { return l.ID == s.Lead })]
	if s.Back {
		return l.B, l.A
	}
	return l.A, l.B
}

// sidesOf returns all sides of a web, in order.
func sidesOf(w api.Web) []api.Side {
	var out []api.Side
	for _, l := range w.Leads {
		out = append(out, fwd(l.ID), back(l.ID))
	}
	return out
}

func cross(a, b, c api.Point) int { return (b.X-a.X)*(c.Y-a.Y) - (b.Y-a.Y)*(c.X-a.X) }

// on reports whether p lies on the segment of a and b: then the ends lie on opposite sides of it.
func on(p, a, b api.Point) bool {
	return cross(a, b, p) == 0 && (a.X-p.X)*(b.X-p.X)+(a.Y-p.Y)*(b.Y-p.Y) <= 0
}

// strictlyOn reports whether p lies on the segment of a and b and is neither.
func strictlyOn(p, a, b api.Point) bool { return p != a && p != b && on(p, a, b) }

// crossing reports whether the segments ab and cd have a point in common that is not an end of both; they have not the same two ends.
func crossing(a, b, c, d api.Point) bool {
	if strictlyOn(a, c, d) || strictlyOn(b, c, d) || strictlyOn(c, a, b) || strictlyOn(d, a, b) {
		return true
	}
	split := func(p, q, r, s api.Point) bool {
		return cross(p, q, r) > 0 && cross(p, q, s) < 0 || cross(p, q, r) < 0 && cross(p, q, s) > 0
	}
	return split(a, b, c, d) && split(c, d, a, b)
}

// clear reports whether a lead meets joints, and leads before it in the list, in common ends only.
func clear(w api.Web, l api.Lead) bool {
	a, b := pointOf(w, l.A), pointOf(w, l.B)
	for _, j := range w.Joints {
		if strictlyOn(j.At, a, b) {
			return false
		}
	}
	for _, m := range w.Leads {
		if m.ID == l.ID {
			break
		}
		if crossing(a, b, pointOf(w, m.A), pointOf(w, m.B)) {
			return false
		}
	}
	return true
}

// wantCheck is rule W1.
func wantCheck(w api.Web) (api.Errno, int) {
	if len(w.Joints) > 200 || len(w.Leads) > 400 {
		return api.ErrLimit, 0
	}
	for k, j := range w.Joints {
		ok := 1 <= j.ID && j.ID <= 65535 && 0 <= j.At.X && j.At.X <= 4096 && 0 <= j.At.Y && j.At.Y <= 4096
		ok = ok && (k == 0 || j.ID > w.Joints[k-1].ID)
		for _, i := range w.Joints[:k] {
			ok = ok && i.At != j.At
		}
		if !ok {
			return api.ErrJoint, j.ID
		}
	}
	for k, l := range w.Leads {
		ends := 0
		for _, j := range w.Joints {
			if j.ID == l.A || j.ID == l.B {
				ends++
			}
		}
		ok := 1 <= l.ID && l.ID <= 65535 && ends == 2 && 0 <= l.Cost && l.Cost <= 1000000
		for _, n := range []int{l.Heart, l.Left, l.Right, l.Give} {
			ok = ok && 0 <= n && n <= 64
		}
		ok = ok && (k == 0 || l.ID > w.Leads[k-1].ID)
		for _, m := range w.Leads[:k] {
			ok = ok && !(m.A == l.A && m.B == l.B) && !(m.A == l.B && m.B == l.A)
		}
		if !ok {
			return api.ErrLead, l.ID
		}
	}
	for _, l := range w.Leads {
		if !clear(w, l) {
			return api.ErrMeet, l.ID
		}
	}
	return api.OK, 0
}

// wantAround returns the sides that leave a joint by their angles.
func wantAround(w api.Web, joint int) []api.Side {
	var out []api.Side
	for _, s := range sidesOf(w) {
		if from, _ := endsOf(w, s); from == joint {
			out = append(out, s)
		}
	}
	angle := func(s api.Side) float64 {
		_, to := endsOf(w, s)
		p, q := pointOf(w, joint), pointOf(w, to)
		a := math.Atan2(float64(q.Y-p.Y), float64(q.X-p.X))
		if a < 0 {
			a += 2 * math.Pi
		}
		return a
	}
	slices.SortFunc(out, func(s, t api.Side) int {
		if angle(s) < angle(t) {
			return -1
		}
		return 1
	})
	return out
}

// wantNext is the chapter's next side.
func wantNext(w api.Web, s api.Side) api.Side {
	_, to := endsOf(w, s)
	leaving := wantAround(w, to)
	s.Back = !s.Back
	k := slices.Index(leaving, s)
	if k == 0 {
		k = len(leaving)
	}
	return leaving[k-1]
}

// wantWalk is the chapter's walk.
func wantWalk(w api.Web, s api.Side) []api.Side {
	walk := []api.Side{s}
	for t := wantNext(w, s); t != s; t = wantNext(w, t) {
		walk = append(walk, t)
	}
	return walk
}

// wantWalks are all walks, from the least side on.
func wantWalks(w api.Web) [][]api.Side {
	var out [][]api.Side
	for _, s := range sidesOf(w) {
		if !slices.ContainsFunc(out, func(walk []api.Side) bool { return slices.Contains(walk, s) }) {
			out = append(out, wantWalk(w, s))
		}
	}
	return out
}

// polygon returns the points of a walk.
func polygon(w api.Web, walk []api.Side) []api.Point {
	var out []api.Point
	for _, s := range walk {
		from, _ := endsOf(w, s)
		out = append(out, pointOf(w, from))
	}
	return out
}

// wantArea is the area of a walk.
func wantArea(w api.Web, walk []api.Side) int {
	sum := 0
	for _, s := range walk {
		from, to := endsOf(w, s)
		p, q := pointOf(w, from), pointOf(w, to)
		sum += p.X*q.Y - q.X*p.Y
	}
	return sum
}

// wantComponents joins the lists of the ends of each lead.
func wantComponents(w api.Web) [][]int {
	home := map[int]int{}
	for _, j := range w.Joints {
		home[j.ID] = j.ID
	}
	for _, l := range w.Leads {
		a, b := home[l.A], home[l.B]
		for id, h := range home {
			if h == max(a, b) {
				home[id] = min(a, b)
			}
		}
	}
	var out [][]int
	for _, j := range w.Joints {
		if home[j.ID] != j.ID {
			continue
		}
		var part []int
		for _, k := range w.Joints {
			if home[k.ID] == j.ID {
				part = append(part, k.ID)
			}
		}
		out = append(out, part)
	}
	return out
}

// without returns a web without a lead (and 0), or without a joint and its leads.
func without(w api.Web, lead, joint int) api.Web {
	out := copyOf(w)
	out.Joints = slices.DeleteFunc(out.Joints, func(j api.Joint) bool { return j.ID == joint })
	out.Leads = slices.DeleteFunc(out.Leads, func(l api.Lead) bool { return l.ID == lead || l.A == joint || l.B == joint })
	return out
}

// wantBridges takes away each lead.
func wantBridges(w api.Web) []int {
	var out []int
	for _, l := range w.Leads {
		if len(wantComponents(without(w, l.ID, 0))) > len(wantComponents(w)) {
			out = append(out, l.ID)
		}
	}
	return out
}

// wantPinches takes away each joint with its leads.
func wantPinches(w api.Web) []int {
	var out []int
	for _, j := range w.Joints {
		if len(wantComponents(without(w, 0, j.ID))) > len(wantComponents(w)) {
			out = append(out, j.ID)
		}
	}
	return out
}

// windsAround adds up the angles under which a point sees the sides of a walk.
func windsAround(w api.Web, walk []api.Side, p api.Point) bool {
	sum := 0.0
	for _, s := range walk {
		from, to := endsOf(w, s)
		a, b := pointOf(w, from), pointOf(w, to)
		dot := (a.X-p.X)*(b.X-p.X) + (a.Y-p.Y)*(b.Y-p.Y)
		sum += math.Atan2(float64(cross(p, a, b)), float64(dot))
	}
	return math.Abs(sum) > 1
}

// wantSound is rule W16.
func wantSound(w api.Web) api.Errno {
	if e, _ := wantCheck(w); e != api.OK {
		return e
	}
	parts := wantComponents(w)
	bare := slices.ContainsFunc(parts, func(part []int) bool { return len(part) == 1 })
	if bare || len(wantBridges(w)) > 0 || len(wantPinches(w)) > 0 {
		return api.ErrApart
	}
	bounded, large := 0, false
	for _, walk := range wantWalks(w) {
		if wantArea(w, walk) <= 0 {
			continue
		}
		bounded++
		from, _ := endsOf(w, walk[0])
		for _, part := range parts {
			for _, joint := range part {
				if !slices.Contains(part, from) && windsAround(w, walk, pointOf(w, joint)) {
					return api.ErrNested
				}
			}
		}
		_, e := plane.Outline(polygon(w, walk))
		large = large || e == api.ErrLimit
	}
	if bounded > 64 || large {
		return api.ErrLimit
	}
	return api.OK
}

package web

import (
	"cmp"
	"iter"
	"slices"

	"leadlight/api"
	"leadlight/plane"
)

// Next returns the next side of the face on the left of a side.
func Next(w api.Web, s api.Side) (api.Side, api.Errno) {
	n, e := readWith(w, s)
	return n.next[s], e
}

// Prior returns the side of which a side is the next one.
func Prior(w api.Web, s api.Side) (api.Side, api.Errno) {
	n, e := readWith(w, s)
	if e != api.OK {
		return api.Side{}, e
	}
	var last api.Side
	for t := range n.walk(s) {
		last = t
	}
	return last, api.OK
}

// Walk returns the closed walk that begins with a side.
func Walk(w api.Web, s api.Side) ([]api.Side, api.Errno) {
	n, e := readWith(w, s)
	if e != api.OK {
		return nil, e
	}
	return slices.Collect(n.walk(s)), api.OK
}

// Walks returns all closed walks.
func Walks(w api.Web) ([][]api.Side, api.Errno) {
	n, e := read(w)
	if e != api.OK {
		return nil, e
	}
	return slices.Collect(n.walks()), api.OK
}

// Area returns twice the signed area of the walk of a side.
func Area(w api.Web, s api.Side) (int, api.Errno) {
	n, e := readWith(w, s)
	if e != api.OK {
		return 0, e
	}
	return doubled(n.polygon(slices.Collect(n.walk(s)))), api.OK
}

// net is a valid web, with the joint at which each side begins, the sides that leave each joint counterclockwise, and the next side of each side.
type net struct {
	web    api.Web
	from   map[api.Side]api.Joint
	around map[int][]api.Side
	next   map[api.Side]api.Side
}

// read returns the net of a web, or the error of Check.
func read(w api.Web) (net, api.Errno) {
	if e, _ := Check(w); e != api.OK {
		return net{}, e
	}
	n := net{w, map[api.Side]api.Joint{}, map[int][]api.Side{}, map[api.Side]api.Side{}}
	for s := range n.sides() {
		l, _ := find(w.Leads, leadID, s.Lead)
		id := l.A
		if s.Back {
			id = l.B
		}
		n.from[s], _ = find(w.Joints, jointID, id)
		n.around[id] = append(n.around[id], s)
	}
	for _, j := range w.Joints {
		n.turnAround(j)
	}
	return n, api.OK
}

// readWith is read for a web of which s must be a side.
func readWith(w api.Web, s api.Side) (net, api.Errno) {
	n, e := read(w)
	if e != api.OK {
		return net{}, e
	}
	if _, ok := n.from[s]; !ok {
		return net{}, api.ErrNone
	}
	return n, api.OK
}

// sides produces the sides in order.
func (n net) sides() iter.Seq[api.Side] {
	return func(yield func(api.Side) bool) {
		for _, l := range n.web.Leads {
			s := api.Side{Lead: l.ID}
			if !yield(s) || !yield(reverse(s)) {
				return
			}
		}
	}
}

// turnAround sorts the sides that leave a joint, and notes the next sides of those that end there.
func (n net) turnAround(j api.Joint) {
	leaving := n.around[j.ID]
	slices.SortFunc(leaving, hub{n, j.At}.compare)
	for k, s := range leaving {
		before := leaving[(k+len(leaving)-1)%len(leaving)]
		n.next[reverse(s)] = before
	}
}

// hub is the point of a joint that sides leave.
type hub struct {
	net net
	at  api.Point
}

// compare orders the sides that leave the joint counterclockwise, from the direction of increasing X on.
func (h hub) compare(s, t api.Side) int {
	p, q := h.net.from[reverse(s)].At, h.net.from[reverse(t)].At
	turn, _ := plane.Turn(h.at, p, q)
	return cmp.Or(cmp.Compare(h.half(p), h.half(q)), -turn)
}

// half returns 0 for a direction from that of increasing X on and before the opposite one, and otherwise 1.
func (h hub) half(p api.Point) int {
	if p.Y > h.at.Y || p.Y == h.at.Y && p.X > h.at.X {
		return 0
	}
	return 1
}

// walk produces the walk of a side, beginning with it.
func (n net) walk(s api.Side) iter.Seq[api.Side] {
	return func(yield func(api.Side) bool) {
		at := s
		for yield(at) {
			at = n.next[at]
			if at == s {
				return
			}
		}
	}
}

// walks produces all walks, each from its least side on, ordered by these.
func (n net) walks() iter.Seq[[]api.Side] {
	return func(yield func([]api.Side) bool) {
		seen := map[api.Side]bool{}
		for s := range n.sides() {
			if seen[s] {
				continue
			}
			walk := slices.Collect(n.walk(s))
			for _, t := range walk {
				seen[t] = true
			}
			if !yield(walk) {
				return
			}
		}
	}
}

// polygon returns the points at which the sides of a walk begin.
func (n net) polygon(walk []api.Side) []api.Point {
	var out []api.Point
	for _, s := range walk {
		out = append(out, n.from[s].At)
	}
	return out
}

// doubled returns twice the area of a closed polygon, which is negative if it is clockwise.
func doubled(polygon []api.Point) int {
	sum := 0
	for k, p := range polygon {
		q := polygon[(k+1)%len(polygon)]
		sum += p.X*q.Y - q.X*p.Y
	}
	return sum
}

package web

import (
	"slices"

	"leadlight/api"
	"leadlight/plane"
)

// Components returns the components of a web as lists of joints.
func Components(w api.Web) ([][]int, api.Errno) {
	n, e := read(w)
	if e != api.OK {
		return nil, e
	}
	return n.components(), api.OK
}

// Bridges returns the leads whose removal increases the number of components.
func Bridges(w api.Web) ([]int, api.Errno) {
	n, e := read(w)
	if e != api.OK {
		return nil, e
	}
	return n.bridges(), api.OK
}

// Pinches returns the joints whose removal divides their component.
func Pinches(w api.Web) ([]int, api.Errno) {
	n, e := read(w)
	if e != api.OK {
		return nil, e
	}
	return n.pinches(), api.OK
}

// Euler returns the numbers of joints, leads, faces and components.
func Euler(w api.Web) (api.Count, api.Errno) {
	n, e := read(w)
	if e != api.OK {
		return api.Count{}, e
	}
	parts := n.components()
	faces := 1
	for range n.walks() {
		faces++
	}
	// Of the walks of each component that has leads, one is not counted.
	for _, part := range parts {
		if !n.bare(part[0]) {
			faces--
		}
	}
	return api.Count{Joints: len(w.Joints), Leads: len(w.Leads), Faces: faces, Components: len(parts)}, api.OK
}

// Sound returns OK if a web is sound, and else the first reason why it is not.
func Sound(w api.Web) api.Errno {
	_, e := readSound(w)
	return e
}

// readSound returns the net of a web, or the error of Sound.
func readSound(w api.Web) (net, api.Errno) {
	n, e := read(w)
	switch {
	case e != api.OK:
		return net{}, e
	case n.apart():
		return net{}, api.ErrApart
	case n.nested():
		return net{}, api.ErrNested
	case n.tooLarge():
		return net{}, api.ErrLimit
	}
	return n, api.OK
}

// bare reports whether a joint has no leads.
func (n net) bare(joint int) bool { return len(n.around[joint]) == 0 }

// components returns the joints of each component.
func (n net) components() [][]int {
	seen := map[int]bool{}
	var part []int
	var gather func(joint int)
	gather = func(joint int) {
		seen[joint] = true
		part = append(part, joint)
		for _, s := range n.around[joint] {
			if to := n.from[reverse(s)].ID; !seen[to] {
				gather(to)
			}
		}
	}
	var out [][]int
	for _, j := range n.web.Joints {
		if seen[j.ID] {
			continue
		}
		part = nil
		gather(j.ID)
		slices.Sort(part)
		out = append(out, part)
	}
	return out
}

// bridges returns the leads of which both sides are in one walk: around any other lead, a cycle of leads keeps the faces of its sides apart.
func (n net) bridges() []int {
	var out []int
	for walk := range n.walks() {
		walked := map[int]bool{}
		for _, s := range walk {
			if walked[s.Lead] {
				out = append(out, s.Lead)
			}
			walked[s.Lead] = true
		}
	}
	slices.Sort(out)
	return out
}

// pinches returns the joints that one walk passes more than once: within the face of the walk, a line from the joint back to it parts what hangs together at the joint only.
func (n net) pinches() []int {
	var out []int
	for walk := range n.walks() {
		passed := map[int]bool{}
		for _, s := range walk {
			joint := n.from[s].ID
			if passed[joint] {
				out = append(out, joint)
			}
			passed[joint] = true
		}
	}
	slices.Sort(out)
	return slices.Compact(out)
}

// apart reports whether a component is not held together by cycles.
func (n net) apart() bool {
	bare := func(j api.Joint) bool { return n.bare(j.ID) }
	return slices.ContainsFunc(n.web.Joints, bare) || len(n.bridges()) > 0 || len(n.pinches()) > 0
}

// nested reports whether a component lies inside a bounded walk of another one, in a web of which nothing is apart. One joint stands for its whole component, as leads do not cross.
func (n net) nested() bool {
	parts := n.components()
	for walk := range n.walks() {
		polygon := n.polygon(walk)
		if doubled(polygon) <= 0 {
			continue
		}
		for _, part := range parts {
			joint, _ := find(n.web.Joints, jointID, part[0])
			if !slices.Contains(part, n.from[walk[0]].ID) && inside(joint.At, polygon) {
				return true
			}
		}
	}
	return false
}

// inside reports whether a point that does not lie on a simple polygon lies inside it. The polygon may have more corners than an outline.
func inside(p api.Point, polygon []api.Point) bool {
	in := false
	for k, a := range polygon {
		b := polygon[(k+1)%len(polygon)]
		rises := a.Y <= p.Y
		if rises == (b.Y <= p.Y) {
			continue
		}
		// Each edge that passes to the right of the point leads in or out.
		if turn, _ := plane.Turn(a, b, p); (turn > 0) == rises {
			in = !in
		}
	}
	return in
}

// tooLarge reports whether a web of which nothing is apart has too many bounded walks, or one of them too many corners.
func (n net) tooLarge() bool {
	bounded := 0
	for walk := range n.walks() {
		polygon := n.polygon(walk)
		if doubled(polygon) <= 0 {
			continue
		}
		bounded++
		if bounded > api.MaxPanes || len(corners(polygon)) > api.MaxCorners {
			return true
		}
	}
	return false
}

// corners returns the indices of the points at which a simple polygon does not go straight on.
func corners(polygon []api.Point) []int {
	var out []int
	n := len(polygon)
	for k, p := range polygon {
		if turn, _ := plane.Turn(polygon[(k+n-1)%n], p, polygon[(k+1)%n]); turn != 0 {
			out = append(out, k)
		}
	}
	return out
}

package web

import (
	"cmp"
	"slices"

	"leadlight/api"
	"leadlight/plane"
)

// Panes returns the panes of a sound web.
func Panes(w api.Web) ([]api.Pane, api.Errno) {
	g, e := glaze(w)
	return g.panes, e
}

// PaneAt returns the pane on the left of a side, or 0 for the unbounded face.
func PaneAt(w api.Web, s api.Side) (int, api.Errno) {
	g, e := glaze(w)
	if e != api.OK {
		return 0, e
	}
	if _, ok := g.from[s]; !ok {
		return 0, api.ErrNone
	}
	return g.paneOf[s], api.OK
}

// Neighbours returns the panes across the leads of a pane.
func Neighbours(w api.Web, pane int) ([]int, api.Errno) {
	g, e := glaze(w)
	if e != api.OK {
		return nil, e
	}
	if pane == 0 || !g.isFace(pane) {
		return nil, api.ErrNone
	}
	var out []int
	for _, s := range slices.Concat(g.panes[pane-1].Edges...) {
		if across := g.paneOf[reverse(s)]; across != 0 {
			out = append(out, across)
		}
	}
	slices.Sort(out)
	return slices.Compact(out), api.OK
}

// Between returns the leads between two panes; pane 0 is the unbounded face.
func Between(w api.Web, a, b int) ([]int, api.Errno) {
	g, e := glaze(w)
	if e != api.OK {
		return nil, e
	}
	if !g.isFace(a) || !g.isFace(b) {
		return nil, api.ErrNone
	}
	var out []int
	for _, l := range w.Leads {
		left, right := g.across(l.ID)
		if left == a && right == b || left == b && right == a {
			out = append(out, l.ID)
		}
	}
	return out, api.OK
}

// Locate returns what lies at a point.
func Locate(w api.Web, p api.Point) (api.Spot, api.Errno) {
	g, e := glaze(w)
	if e != api.OK {
		return api.Spot{}, e
	}
	if !plane.ValidPoint(p) {
		return api.Spot{}, api.ErrArg
	}
	for _, j := range w.Joints {
		if j.At == p {
			return api.Spot{Kind: api.SpotJoint, ID: j.ID}, api.OK
		}
	}
	for _, l := range w.Leads {
		s := api.Side{Lead: l.ID}
		if lies(p, g.from[s].At, g.from[reverse(s)].At) {
			return api.Spot{Kind: api.SpotLead, ID: l.ID}, api.OK
		}
	}
	for _, pane := range g.panes {
		if at, _ := plane.Place(pane.Outline, p); at == api.Inside {
			return api.Spot{Kind: api.SpotPane, ID: pane.ID}, api.OK
		}
	}
	return api.Spot{Kind: api.SpotOutside}, api.OK
}

// ValidPanel reports whether a panel is valid.
func ValidPanel(p api.Panel) bool {
	g, e := glaze(p.Web)
	return e == api.OK && g.validOpen(p.Open) && g.validPins(p.Pins) && g.held(p.Pins)
}

// glazed is the net of a sound web, with its panes, and with the pane of each side that has one.
type glazed struct {
	net
	panes  []api.Pane
	paneOf map[api.Side]int
}

// glaze returns a web with its panes, or the error of Sound.
func glaze(w api.Web) (glazed, api.Errno) {
	n, e := readSound(w)
	if e != api.OK {
		return glazed{}, e
	}
	g := glazed{net: n, paneOf: map[api.Side]int{}}
	for walk := range n.walks() {
		if doubled(n.polygon(walk)) > 0 {
			g.panes = append(g.panes, n.pane(walk))
		}
	}
	slices.SortFunc(g.panes, func(p, q api.Pane) int {
		return slices.CompareFunc(p.Outline, q.Outline, comparePoints)
	})
	for k := range g.panes {
		g.panes[k].ID = k + 1
		for _, s := range slices.Concat(g.panes[k].Edges...) {
			g.paneOf[s] = k + 1
		}
	}
	return g, api.OK
}

// pane returns the pane of a bounded walk, without its ID.
func (n net) pane(walk []api.Side) api.Pane {
	polygon := n.polygon(walk)
	bends := corners(polygon)
	// The least point of a polygon is always a corner.
	least := slices.MinFunc(polygon, comparePoints)
	first := slices.IndexFunc(bends, func(k int) bool { return polygon[k] == least })
	bends = slices.Concat(bends[first:], bends[:first])
	var out api.Pane
	for i, k := range bends {
		out.Outline = append(out.Outline, polygon[k])
		var edge []api.Side
		for end := bends[(i+1)%len(bends)]; k != end; k = (k + 1) % len(walk) {
			edge = append(edge, walk[k])
		}
		out.Edges = append(out.Edges, edge)
	}
	return out
}

// comparePoints orders points by X, and then by Y.
func comparePoints(p, q api.Point) int {
	return cmp.Or(cmp.Compare(p.X, q.X), cmp.Compare(p.Y, q.Y))
}

// isFace reports whether there is a pane with an ID, or the ID is 0.
func (g glazed) isFace(id int) bool { return upTo(id, len(g.panes)) }

// across returns the panes of both sides of a lead, or 0.
func (g glazed) across(lead int) (left, right int) {
	s := api.Side{Lead: lead}
	return g.paneOf[s], g.paneOf[reverse(s)]
}

// frame returns the frame leads, increasing, and which joints are frame joints.
func (g glazed) frame() (leads []int, joints map[int]bool) {
	joints = map[int]bool{}
	for _, l := range g.web.Leads {
		if left, right := g.across(l.ID); left == 0 || right == 0 {
			leads = append(leads, l.ID)
			joints[l.A], joints[l.B] = true, true
		}
	}
	return leads, joints
}

// validOpen reports whether a list rises and contains frame leads only.
func (g glazed) validOpen(open []int) bool {
	leads, _ := g.frame()
	for k, id := range open {
		if k > 0 && id <= open[k-1] || !slices.Contains(leads, id) {
			return false
		}
	}
	return true
}

// validPins reports whether pins rise and hold frame joints only, with a play within its limits.
func (g glazed) validPins(pins []api.Pin) bool {
	_, joints := g.frame()
	for k, p := range pins {
		if k > 0 && p.Joint <= pins[k-1].Joint || !joints[p.Joint] || !upTo(p.Play, api.MaxGive) {
			return false
		}
	}
	return true
}

// held reports whether each component has a pinned joint.
func (g glazed) held(pins []api.Pin) bool {
	for _, part := range g.components() {
		if !slices.ContainsFunc(pins, func(p api.Pin) bool { return slices.Contains(part, p.Joint) }) {
			return false
		}
	}
	return true
}

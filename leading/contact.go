package leading

import (
	"maps"
	"slices"

	"leadlight/api"
	"leadlight/plane"
)

// Blocked returns the blocked edges of a pane.
func Blocked(p api.Panel, present []int, pane int) ([]int, api.Errno) {
	s, e := readStateAt(p, present, pane)
	if e != api.OK {
		return nil, e
	}
	return s.blocked(pane), api.OK
}

// Normals returns the outward normals of the blocked edges of a pane.
func Normals(p api.Panel, present []int, pane int) ([]api.Point, api.Errno) {
	s, e := readStateAt(p, present, pane)
	if e != api.OK {
		return nil, e
	}
	return s.normals(pane), api.OK
}

// Outside returns the absent panes that have a way out.
func Outside(p api.Panel, present []int) ([]int, api.Errno) {
	s, e := readState(p, present)
	if e != api.OK {
		return nil, e
	}
	return slices.Sorted(maps.Keys(s.outside())), api.OK
}

// WayOut reports whether a pane has a way out.
func WayOut(p api.Panel, present []int, pane int) (bool, api.Errno) {
	s, e := readStateAt(p, present, pane)
	if e != api.OK {
		return false, e
	}
	return s.wayOut(pane, s.outside()), api.OK
}

// Free reports whether a present pane is free.
func Free(p api.Panel, present []int, pane int) (bool, api.Errno) {
	s, e := readStateAt(p, present, pane)
	if e != api.OK {
		return false, e
	}
	return s.free(pane, s.outside()), api.OK
}

// Frees returns all panes that are free.
func Frees(p api.Panel, present []int) ([]int, api.Errno) {
	s, e := readState(p, present)
	if e != api.OK {
		return nil, e
	}
	outside := s.outside()
	stays := func(pane int) bool { return !s.free(pane, outside) }
	return slices.DeleteFunc(slices.Clone(present), stays), api.OK
}

// Stuck returns edges of a pane that leave it no direction.
func Stuck(p api.Panel, present []int, pane int) ([]int, api.Errno) {
	s, e := readStateAt(p, present, pane)
	if e != api.OK {
		return nil, e
	}
	_, block, e := plane.Exit(s.normals(pane))
	if e == api.OK {
		return nil, api.ErrNone
	}
	blocked := s.blocked(pane)
	var out []int
	for _, k := range block {
		out = append(out, blocked[k])
	}
	return out, api.OK
}

// blocked returns the indices of the blocked edges of a pane.
func (s state) blocked(pane int) []int {
	var out []int
	for k, edge := range s.panes[pane-1].Edges {
		if slices.ContainsFunc(edge, s.blocks) {
			out = append(out, k)
		}
	}
	return out
}

// blocks reports whether what is on the reverse of a side is in the way.
func (s state) blocks(side api.Side) bool {
	next := s.across(side)
	return s.present[next] || next == 0 && !s.open[side.Lead]
}

// normals returns the outward normals of the blocked edges of a pane.
func (s state) normals(pane int) []api.Point {
	outline := s.panes[pane-1].Outline
	var out []api.Point
	for _, k := range s.blocked(pane) {
		a, b := outline[k], outline[(k+1)%len(outline)]
		out = append(out, api.Point{X: b.Y - a.Y, Y: a.X - b.X})
	}
	return out
}

// outside returns the absent panes that have a way out.
func (s state) outside() set {
	out := set{}
	// follow goes on from a pane through absent ones.
	var follow func(pane int)
	follow = func(pane int) {
		if s.present[pane] || out[pane] {
			return
		}
		out[pane] = true
		for side := range s.sides(pane) {
			if next := s.across(side); next != 0 {
				follow(next)
			}
		}
	}
	for _, p := range s.panes {
		if s.wayOut(p.ID, nil) {
			follow(p.ID)
		}
	}
	return out
}

// wayOut reports whether a pane is at an open lead, or at one of the panes that are outside.
func (s state) wayOut(pane int, outside set) bool {
	for side := range s.sides(pane) {
		// Open leads are frame leads: the unbounded face is on the other side.
		if s.open[side.Lead] || outside[s.across(side)] {
			return true
		}
	}
	return false
}

// free reports whether a pane is present and free, if just these absent panes are outside.
func (s state) free(pane int, outside set) bool {
	if !s.present[pane] || !s.wayOut(pane, outside) {
		return false
	}
	_, _, e := plane.Exit(s.normals(pane))
	return e == api.OK
}

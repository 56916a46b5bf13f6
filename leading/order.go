package leading

import (
	"iter"
	"maps"
	"slices"

	"leadlight/api"
)

// Apart returns the order in which panes are taken out, and the panes that cannot be.
func Apart(p api.Panel, present []int) (order, core []int, e api.Errno) {
	s, e := readState(p, present)
	if e != api.OK {
		return nil, nil, e
	}
	order = slices.Collect(s.takings(s.present))
	taken := func(pane int) bool { return slices.Contains(order, pane) }
	return order, slices.DeleteFunc(slices.Clone(present), taken), api.OK
}

// Order returns OK if panes can be taken out in an order, and else the index of the first one that cannot.
func Order(p api.Panel, present, order []int) (api.Errno, int) {
	s, e := readState(p, present)
	if e != api.OK {
		return e, 0
	}
	for k, pane := range order {
		if !s.free(pane, s.outside()) {
			return api.ErrStuck, k
		}
		delete(s.present, pane)
	}
	return api.OK, 0
}

// Feasible reports whether a set of panes can be taken out, all others staying.
func Feasible(p api.Panel, set []int) (bool, api.Errno) {
	order, e := takeOut(p, set)
	return e == api.OK && len(order) == len(set), e
}

// Greatest returns the greatest feasible set within a set.
func Greatest(p api.Panel, set []int) ([]int, api.Errno) {
	// What is taken out makes more panes free, never fewer, so no choice of the order loses one.
	order, e := takeOut(p, set)
	slices.Sort(order)
	return order, e
}

// Taking returns the order in which a feasible set is taken out.
func Taking(p api.Panel, set []int) ([]int, api.Errno) {
	order, e := takeOut(p, set)
	switch {
	case e != api.OK:
		return nil, e
	case len(order) < len(set):
		return nil, api.ErrStuck
	}
	return order, api.OK
}

// Leading returns the order in which a feasible set is leaded up.
func Leading(p api.Panel, set []int) ([]int, api.Errno) {
	order, e := Taking(p, set)
	slices.Reverse(order)
	return order, e
}

// Opened returns the leads around the panes of a set.
func Opened(p api.Panel, set []int) ([]int, api.Errno) {
	g, some, e := readSet(p, set)
	if e != api.OK {
		return nil, e
	}
	var out []int
	for l := range g.around(some) {
		out = append(out, l.ID)
	}
	return out, api.OK
}

// Price returns the cost of the leads around the panes of a set.
func Price(p api.Panel, set []int) (int, api.Errno) {
	g, some, e := readSet(p, set)
	if e != api.OK {
		return 0, e
	}
	sum := 0
	for l := range g.around(some) {
		sum += l.Cost
	}
	return sum, api.OK
}

// takeOut returns the panes of a list that can be taken out while all others stay, in the order in which they are.
func takeOut(p api.Panel, list []int) ([]int, api.Errno) {
	g, some, e := readSet(p, list)
	if e != api.OK {
		return nil, e
	}
	all := state{g, set{}}
	for _, pane := range g.panes {
		all.present[pane.ID] = true
	}
	return slices.Collect(all.takings(some)), api.OK
}

// takings yields the panes of some that are taken out, one after the other: each time the free one with the least ID.
func (s state) takings(some set) iter.Seq[int] {
	return func(yield func(int) bool) {
		left := state{s.glazed, maps.Clone(s.present)}
		for {
			pane, ok := left.firstFree(some)
			if !ok || !yield(pane) {
				return
			}
			delete(left.present, pane)
		}
	}
}

// firstFree returns the free pane of some with the least ID, if there is one.
func (s state) firstFree(some set) (int, bool) {
	outside := s.outside()
	for _, p := range s.panes {
		if some[p.ID] && s.free(p.ID, outside) {
			return p.ID, true
		}
	}
	return 0, false
}

// around yields the leads that have a side with one of some panes, by ID.
func (g glazed) around(some set) iter.Seq[api.Lead] {
	return func(yield func(api.Lead) bool) {
		for _, l := range g.panel.Web.Leads {
			side := api.Side{Lead: l.ID}
			if !some[g.paneOf[side]] && !some[g.across(side)] {
				continue
			}
			if !yield(l) {
				return
			}
		}
	}
}

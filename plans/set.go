package plans

import "leadlight/api"

// set is some panes.
type set [api.MaxLift]bool

// setOf returns the set of a list of panes.
func setOf(panes []int) set {
	var s set
	for _, id := range panes {
		s[id-1] = true
	}
	return s
}

// panes returns the IDs of a set.
func (s set) panes() []int {
	var out []int
	for i, is := range s {
		if is {
			out = append(out, i+1)
		}
	}
	return out
}

// with returns a set with one more pane.
func (s set) with(i int) set {
	s[i] = true
	return s
}

// join returns the panes that are in one of two sets.
func (s set) join(other set) set {
	for i, is := range other {
		s[i] = s[i] || is
	}
	return s
}

// common returns the panes that are in both of two sets.
func (s set) common(other set) set {
	for i, is := range other {
		s[i] = s[i] && is
	}
	return s
}

// without returns the panes of a set that are not in another one.
func (s set) without(other set) set {
	for i, is := range other {
		s[i] = s[i] && !is
	}
	return s
}

// all returns the set of all panes.
func (t *task) all() set {
	var s set
	for i := range t.panes {
		s[i] = true
	}
	return s
}

// isList reports whether a list is a strictly increasing list of panes.
func (t *task) isList(panes []int) bool {
	before := 0
	for _, id := range panes {
		if !within(id, before+1, len(t.panes)) {
			return false
		}
		before = id
	}
	return true
}

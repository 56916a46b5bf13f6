package places

import (
	"slices"

	"leadlight/api"
)

// Sound reports whether a filling uses no piece twice.
func Sound(p api.Problem, f []int) (bool, api.Errno) {
	s, e := readFilling(p, f)
	if e != api.OK {
		return false, e
	}
	return s.sound(), api.OK
}

// Breaks returns the indices of the rules that a filling breaks.
func Breaks(p api.Problem, f []int) ([]int, api.Errno) {
	s, e := readFilling(p, f)
	if e != api.OK {
		return nil, e
	}
	return s.allBroken(), api.OK
}

// Violates returns the items that a filling violates.
func Violates(p api.Problem, f []int) ([]int, api.Errno) {
	s, e := readFilling(p, f)
	if e != api.OK {
		return nil, e
	}
	var out []int
	for _, i := range s.allBroken() {
		out = append(out, p.Rules[i].Item)
	}
	return slices.Compact(out), api.OK
}

// Agrees reports whether a filling is sound and violates no item.
func Agrees(p api.Problem, f []int) (bool, api.Errno) {
	s, e := readFilling(p, f)
	if e != api.OK {
		return false, e
	}
	return s.agrees(), api.OK
}

// readFilling returns a search with all options of a filling chosen, or the error of the problem or the filling.
func readFilling(p api.Problem, f []int) (*search, api.Errno) {
	switch {
	case !Valid(p):
		return nil, api.ErrProblem
	case !validFilling(p, f):
		return nil, api.ErrFilling
	}
	s := newSearch(p)
	for _, option := range f {
		s.choose(option)
	}
	return s, api.OK
}

// allBroken returns the rules that no filling keeps.
func (s *search) allBroken() []int {
	var out []int
	for i := range s.Rules {
		if s.broken(i) {
			out = append(out, i)
		}
	}
	return out
}

// validFilling reports whether a list is a filling of a valid problem.
func validFilling(p api.Problem, f []int) bool {
	if len(f) != len(p.Panes) {
		return false
	}
	for pane, option := range f {
		if !hasOption(p, pane, option) {
			return false
		}
	}
	return true
}

// marks returns a mark for each option of each pane.
func marks(p api.Problem, mark bool) [][]bool {
	var out [][]bool
	for _, l := range p.Options {
		out = append(out, slices.Repeat([]bool{mark}, len(l)))
	}
	return out
}

// markAll marks the options of a filling.
func markAll(marks [][]bool, f []int) {
	for pane, option := range f {
		marks[pane][option] = true
	}
}

package places

import (
	"cmp"
	"slices"

	"leadlight/api"
)

// mostSpace is the greatest space that is told.
const mostSpace = 1 << 50

// Valid reports whether a problem is valid.
func Valid(p api.Problem) bool {
	return validPanes(p.Panes) && validOptions(p) && validRules(p)
}

// Space returns the product of the numbers of options.
func Space(p api.Problem) (int, api.Errno) {
	if !Valid(p) {
		return 0, api.ErrProblem
	}
	n, ok := space(p)
	if !ok {
		return 0, api.ErrLimit
	}
	return n, api.OK
}

// Only returns a problem with the rules of some items alone.
func Only(p api.Problem, items []int) (api.Problem, api.Errno) {
	switch {
	case !Valid(p):
		return api.Problem{}, api.ErrProblem
	case !rising(items, cmp.Compare[int]):
		return api.Problem{}, api.ErrArg
	}
	out := api.Problem{Panes: slices.Clone(p.Panes), Options: cloneAll(p.Options)}
	for _, r := range p.Rules {
		if _, ok := slices.BinarySearch(items, r.Item); ok {
			r.Panes, r.Hits, r.OK = slices.Clone(r.Panes), cloneAll(r.Hits), cloneAll(r.OK)
			out.Rules = append(out.Rules, r)
		}
	}
	return out, api.OK
}

// argError returns the error of a problem, ErrArg if what else a function is given is not valid, or ErrLimit if the problem is large.
func argError(p api.Problem, others bool) api.Errno {
	switch {
	case !Valid(p):
		return api.ErrProblem
	case !others:
		return api.ErrArg
	case large(p):
		return api.ErrLimit
	}
	return api.OK
}

// space returns the space of a valid problem, unless it is above mostSpace.
func space(p api.Problem) (int, bool) {
	product := 1
	for _, l := range p.Options {
		// No pane is without options, so a product that is too great stays so.
		product *= len(l)
		if product > mostSpace {
			return 0, false
		}
	}
	return product, true
}

// large reports whether a valid problem is large.
func large(p api.Problem) bool {
	n, ok := space(p)
	return !ok || n > api.MaxSpace
}

// hasOption reports whether a problem has an option of a pane; it does not have to be valid.
func hasOption(p api.Problem, pane, option int) bool {
	return within(pane, 0, len(p.Options)-1) && within(option, 0, len(p.Options[pane])-1)
}

func validPanes(panes []int) bool {
	return rising(panes, cmp.Compare[int]) && all(panes, func(pane int) bool { return within(pane, 1, api.MaxPanes) })
}

// validOptions reports whether a problem has valid options for each pane.
func validOptions(p api.Problem) bool {
	inOrder := ranking{lost: api.MaxID + 1}.compare
	return len(p.Options) == len(p.Panes) && all(p.Options, func(l []api.Option) bool {
		return within(len(l), 1, api.MaxOptions) && all(l, validOption) && rising(l, inOrder)
	})
}

func validOption(o api.Option) bool {
	return within(o.Piece, 0, api.MaxID) && within(o.Setting.Shift, 0, api.MaxCorners-1) && within(o.Colour, 1, api.MaxColour) &&
		(o.Piece > 0 || o.Setting == api.Setting{})
}

// ranking is the order of options, in which new glass has a place of its own among the pieces.
type ranking struct{ lost int }

func (r ranking) compare(a, b api.Option) int {
	return cmp.Or(
		cmp.Compare(r.piece(a), r.piece(b)),
		cmp.Compare(a.Setting.Shift, b.Setting.Shift),
		cmp.Compare(number(a.Setting.Back), number(b.Setting.Back)),
		cmp.Compare(a.Colour, b.Colour))
}

func (r ranking) piece(o api.Option) int {
	if o.Piece == 0 {
		return r.lost
	}
	return o.Piece
}

// validRules reports whether the rules of a problem with valid panes and options are valid.
func validRules(p api.Problem) bool {
	if len(p.Rules) > api.MaxRules || !all(p.Rules, func(r api.Rule) bool { return validRule(p, r) }) {
		return false
	}
	items := itemOfEach(p)
	return slices.IsSorted(items) && len(slices.Compact(items)) <= api.MaxItems
}

func validRule(p api.Problem, r api.Rule) bool {
	if !within(r.Item, 1, api.MaxID) || !all(r.Panes, func(pane int) bool { return within(pane, 0, len(p.Panes)-1) }) {
		return false
	}
	switch r.Kind {
	case api.RuleCount:
		return rising(r.Panes, cmp.Compare[int]) && len(r.OK) == 0 && len(r.Hits) == len(r.Panes) && validHits(p, r)
	case api.RulePair:
		return len(r.Panes) == 2 && r.Panes[0] != r.Panes[1] && len(r.Hits) == 0 && r.Count == api.Span{} && validPairs(p, r)
	}
	return false
}

// validHits reports whether the lists of a rule that counts are as long as those of the options.
func validHits(p api.Problem, r api.Rule) bool {
	for k, pane := range r.Panes {
		if len(r.Hits[k]) != len(p.Options[pane]) {
			return false
		}
	}
	return true
}

// validPairs reports whether the lists of a rule of two panes are as long as those of the options.
func validPairs(p api.Problem, r api.Rule) bool {
	a, b := p.Options[r.Panes[0]], p.Options[r.Panes[1]]
	return len(r.OK) == len(a) && all(r.OK, func(row []bool) bool { return len(row) == len(b) })
}

// itemOfEach returns the item of each rule.
func itemOfEach(p api.Problem) []int {
	var out []int
	for _, r := range p.Rules {
		out = append(out, r.Item)
	}
	return out
}

// rising reports whether a list strictly increases.
func rising[T any](l []T, compare func(a, b T) int) bool {
	for k := range l {
		if k > 0 && compare(l[k-1], l[k]) >= 0 {
			return false
		}
	}
	return true
}

// all reports whether something is true of all elements of a list.
func all[T any](l []T, is func(T) bool) bool {
	return !slices.ContainsFunc(l, func(x T) bool { return !is(x) })
}

// cloneAll returns copies of lists.
func cloneAll[T any](lists [][]T) [][]T {
	var out [][]T
	for _, l := range lists {
		out = append(out, slices.Clone(l))
	}
	return out
}

// within reports whether n is from lo to hi.
func within(n, lo, hi int) bool { return lo <= n && n <= hi }

// number is 1 for true, and 0 for false.
func number(is bool) int {
	if is {
		return 1
	}
	return 0
}

package places

import (
	"slices"

	"leadlight/api"
)

// Prune returns the options that are left when those that break a rule in any case are struck.
func Prune(p api.Problem) ([][]bool, api.Errno) {
	if !Valid(p) {
		return nil, api.ErrProblem
	}
	s := newStriking(p)
	for _, w := range s.watchers {
		w.examine(s.strike)
	}
	for len(s.news) > 0 {
		c := s.news[0]
		s.news = s.news[1:]
		for _, i := range s.rules[c.pane] {
			s.watchers[i].lose(c, s.strike)
		}
	}
	return s.left, api.OK
}

// striking is the options that are left, the rules of each pane with what watches them, and the struck options of which these have not been told yet.
type striking struct {
	left     [][]bool
	rules    [][]int
	watchers []watcher
	news     []choice
}

// watcher knows what the options that are left mean for a rule, and strikes those that can be struck because of it: all of them, or those for which this comes of one more that has been struck.
type watcher interface {
	examine(strike func(choice))
	lose(c choice, strike func(choice))
}

func newStriking(p api.Problem) *striking {
	s := &striking{left: marks(p, true), rules: make([][]int, len(p.Panes))}
	for i, r := range p.Rules {
		for _, pane := range r.Panes {
			s.rules[pane] = append(s.rules[pane], i)
		}
		if r.Kind == api.RuleCount {
			s.watchers = append(s.watchers, newCounter(r))
		} else {
			s.watchers = append(s.watchers, newPairer(r))
		}
	}
	return s
}

// strike strikes an option, if it is left.
func (s *striking) strike(c choice) {
	if s.left[c.pane][c.option] {
		s.left[c.pane][c.option] = false
		s.news = append(s.news, c)
	}
}

// pairer watches a rule of two panes: it counts for each option of both the options of the other pane that are left and OK with it.
type pairer struct {
	api.Rule
	partners [2][]int
}

func newPairer(r api.Rule) *pairer {
	w := &pairer{Rule: r}
	w.partners = [2][]int{make([]int, len(r.OK)), make([]int, len(r.OK[0]))}
	for a, row := range r.OK {
		for b, ok := range row {
			w.partners[0][a] += number(ok)
			w.partners[1][b] += number(ok)
		}
	}
	return w
}

func (w *pairer) examine(strike func(choice)) {
	for side, counts := range w.partners {
		for option := range counts {
			w.examineOne(side, option, strike)
		}
	}
}

func (w *pairer) lose(c choice, strike func(choice)) {
	side := 1 - slices.Index(w.Panes, c.pane)
	for option := range w.partners[side] {
		if w.together(side, option, c.option) {
			w.partners[side][option]--
			w.examineOne(side, option, strike)
		}
	}
}

// examineOne strikes an option without partners.
func (w *pairer) examineOne(side, option int, strike func(choice)) {
	if w.partners[side][option] == 0 {
		strike(choice{w.Panes[side], option})
	}
}

// together reports whether an option of the pane on a side, and one of the other pane, are OK.
func (w *pairer) together(side, option, other int) bool {
	if side == 0 {
		return w.OK[option][other]
	}
	return w.OK[other][option]
}

// counter watches a rule that counts: it counts for each of its panes the options that are left and no hits, and those that are hits.
type counter struct {
	api.Rule
	options [][2]int
}

func newCounter(r api.Rule) *counter {
	w := &counter{r, make([][2]int, len(r.Panes))}
	for at, hits := range r.Hits {
		for _, hit := range hits {
			w.options[at][number(hit)]++
		}
	}
	return w
}

func (w *counter) examine(strike func(choice)) {
	var sum api.Span
	for at := range w.options {
		open := w.open(at)
		sum.Lo += open.Lo
		sum.Hi += open.Hi
	}
	for at := range w.options {
		open := w.open(at)
		for hit := range 2 {
			if !meet(api.Span{Lo: sum.Lo - open.Lo + hit, Hi: sum.Hi - open.Hi + hit}, w.Count) {
				w.strikeAll(at, hit, strike)
			}
		}
	}
}

func (w *counter) lose(c choice, strike func(choice)) {
	at := slices.Index(w.Panes, c.pane)
	hit := number(w.Hits[at][c.option])
	w.options[at][hit]--
	if w.options[at][hit] == 0 {
		w.examine(strike)
	}
}

// open returns how many hits the options of a pane that are left are, at least and at most.
func (w *counter) open(at int) api.Span {
	n := w.options[at]
	if n == [2]int{} {
		// Nothing is possible for the other panes then: a least number that no greatest one reaches makes their span empty.
		return api.Span{Lo: api.MaxPanes + 1}
	}
	return api.Span{Lo: number(n[0] == 0), Hi: number(n[1] > 0)}
}

// strikeAll strikes the options of a pane that are hits (1), or those that are not (0).
func (w *counter) strikeAll(at, hit int, strike func(choice)) {
	for option, is := range w.Hits[at] {
		if number(is) == hit {
			strike(choice{w.Panes[at], option})
		}
	}
}

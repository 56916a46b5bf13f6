package places

import (
	"iter"
	"slices"

	"leadlight/api"
)

// choice is an option of a pane.
type choice struct{ pane, option int }

// search is a valid problem while options are chosen for its panes, from the first one on. It stands for the fillings that have the chosen options.
type search struct {
	api.Problem
	allowed func(choice) bool // which choices fillings are sought with
	chosen  []int
	pieces  []int      // the pieces of the chosen options
	seats   [][]seat   // of each pane, by rule
	tallies []api.Span // of each rule that counts: the least and the most hits of the fillings
}

// seat is the place of a pane in a rule. If the rule counts, it says which of the pane's options are hits, and how many of them a filling has here before an option is chosen.
type seat struct {
	rule int
	hits []bool
	open api.Span
}

func newSearch(p api.Problem) *search {
	s := &search{Problem: p, seats: make([][]seat, len(p.Panes)), tallies: make([]api.Span, len(p.Rules))}
	s.allowed = func(choice) bool { return true }
	for i, r := range p.Rules {
		for at, pane := range r.Panes {
			seat := seat{rule: i}
			if r.Kind == api.RuleCount {
				seat.hits, seat.open = r.Hits[at], open(r.Hits[at])
				s.tallies[i].Lo += seat.open.Lo
				s.tallies[i].Hi += seat.open.Hi
			}
			// Choosing the only option of a pane leaves all fillings, so no rule has to know.
			if len(p.Options[pane]) > 1 {
				s.seats[pane] = append(s.seats[pane], seat)
			}
		}
	}
	return s
}

// open returns how many hits any one of some options is, at least and at most.
func open(hits []bool) api.Span {
	return api.Span{Lo: number(!slices.Contains(hits, false)), Hi: number(slices.Contains(hits, true))}
}

// require lets only fillings with a choice be sought.
func (s *search) require(must choice) {
	s.allowed = func(c choice) bool { return c.pane != must.pane || c.option == must.option }
}

// choose chooses an option for the next pane.
func (s *search) choose(option int) {
	pane := len(s.chosen)
	s.chosen = append(s.chosen, option)
	s.pieces = append(s.pieces, s.Options[pane][option].Piece)
	s.shift(choice{pane, option}, 1)
}

// back takes the last choice back.
func (s *search) back() {
	pane := len(s.chosen) - 1
	s.shift(choice{pane, s.chosen[pane]}, -1)
	s.chosen, s.pieces = s.chosen[:pane], s.pieces[:pane]
}

// shift adds to the tallies what a choice changes in them, or takes it away, if way is -1.
func (s *search) shift(c choice, way int) {
	for _, seat := range s.seats[c.pane] {
		if seat.hits == nil {
			continue
		}
		hit := number(seat.hits[c.option])
		s.tallies[seat.rule].Lo += way * (hit - seat.open.Lo)
		s.tallies[seat.rule].Hi += way * (hit - seat.open.Hi)
	}
}

// agreeing yields the fillings that agree, in order.
func (s *search) agreeing() iter.Seq[[]int] { return s.fillings(s.hopeless) }

// fillings yields, in order, the fillings on whose way no choice is dead. What it yields is its own list, and changes afterwards.
func (s *search) fillings(dead func() bool) iter.Seq[[]int] {
	return func(yield func([]int) bool) { s.visit(dead, yield) }
}

// visit yields the fillings with the chosen options, and reports whether to go on.
func (s *search) visit(dead func() bool, yield func([]int) bool) bool {
	if dead() {
		return true
	}
	pane := len(s.chosen)
	if pane == len(s.Panes) {
		return yield(s.chosen)
	}
	for option := range s.Options[pane] {
		if !s.allowed(choice{pane, option}) {
			continue
		}
		s.choose(option)
		more := s.visit(dead, yield)
		s.back()
		if !more {
			return false
		}
	}
	return true
}

// first returns the first filling that agrees, if there is one.
func (s *search) first() ([]int, bool) {
	for f := range s.agreeing() {
		return slices.Clone(f), true
	}
	return nil, false
}

// hopeless reports whether no filling agrees, because of the last choice.
func (s *search) hopeless() bool { return s.doubled() || s.lastBroken() >= 0 }

// doubled reports whether the last choice has a piece that an earlier one has.
func (s *search) doubled() bool {
	return len(s.chosen) > 0 && s.twin(len(s.chosen)-1) >= 0
}

// twin returns the first pane ahead of a pane for which the same piece is chosen, or -1.
func (s *search) twin(pane int) int {
	if s.pieces[pane] == 0 {
		return -1
	}
	return slices.Index(s.pieces[:pane], s.pieces[pane])
}

// lastBroken returns the first rule that no filling keeps because of the last choice (at first, that none keeps at all), or -1.
func (s *search) lastBroken() int {
	if len(s.chosen) == 0 {
		return s.firstBroken()
	}
	for _, seat := range s.seats[len(s.chosen)-1] {
		if s.broken(seat.rule) {
			return seat.rule
		}
	}
	return -1
}

// firstBroken returns the first rule that no filling keeps, or -1.
func (s *search) firstBroken() int {
	for i := range s.Rules {
		if s.broken(i) {
			return i
		}
	}
	return -1
}

// broken reports whether no filling keeps a rule.
func (s *search) broken(rule int) bool {
	r := s.Rules[rule]
	if r.Kind == api.RuleCount {
		return !meet(s.tallies[rule], r.Count)
	}
	a, b := s.left(r.Panes[0]), s.left(r.Panes[1])
	return !slices.ContainsFunc(r.OK[a.Lo:a.Hi+1], func(row []bool) bool { return slices.Contains(row[b.Lo:b.Hi+1], true) })
}

// left returns the indices of the options that a pane has in the fillings.
func (s *search) left(pane int) api.Span {
	if pane < len(s.chosen) {
		return api.Span{Lo: s.chosen[pane], Hi: s.chosen[pane]}
	}
	return api.Span{Lo: 0, Hi: len(s.Options[pane]) - 1}
}

// sound reports whether the chosen options use no piece twice.
func (s *search) sound() bool {
	for pane := range s.chosen {
		if s.twin(pane) >= 0 {
			return false
		}
	}
	return true
}

// agrees reports whether all options are chosen, and the filling agrees.
func (s *search) agrees() bool {
	return len(s.chosen) == len(s.Panes) && s.sound() && s.firstBroken() < 0
}

// meet reports whether two spans share a number.
func meet(a, b api.Span) bool { return max(a.Lo, b.Lo) <= min(a.Hi, b.Hi) }

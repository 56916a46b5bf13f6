package plans

import (
	"errors"
	"slices"

	"leadlight/api"
	"leadlight/leading"
)

// Steps returns the steps to a filling with a lifted set.
func Steps(j api.Job, l []api.Option, set []int) ([]api.Step, api.Errno) {
	t, f, e := readFilling(j, l)
	if e != api.OK {
		return nil, e
	}
	c, e := t.glaze(f)
	if e != api.OK {
		return nil, e
	}
	if _, e := t.cost(f, set); e != api.OK {
		return nil, e
	}
	return t.steps(set, c.Scores), api.OK
}

// Carry returns what the panes hold when steps are carried out.
func Carry(j api.Job, l []api.Option, steps []api.Step) ([]api.Held, api.Errno, int) {
	t, f, e := readFilling(j, l)
	if e != api.OK {
		return nil, e, 0
	}
	c, e := t.glaze(f)
	if e != api.OK {
		return nil, e, 0
	}
	s := newState(t, f, c.Scores)
	var stop stopped
	if errors.As(s.carryOut(steps), &stop) {
		return nil, api.ErrStep, stop.at
	}
	return s.held(), api.OK, 0
}

// steps returns the steps by which a feasible set is taken out, scores are made, and the set is put back.
func (t *task) steps(set []int, scores []api.Score) []api.Step {
	taking, _ := leading.Taking(t.panel, set)
	back, _ := leading.Leading(t.panel, set)
	var out []api.Step
	for _, pane := range taking {
		out = append(out, api.Step{Kind: api.StepOut, Pane: pane})
	}
	for _, s := range scores {
		s.Points = slices.Clone(s.Points)
		out = append(out, api.Step{Kind: api.StepCut, Score: s})
	}
	for _, pane := range back {
		out = append(out, api.Step{Kind: api.StepIn, Pane: pane})
	}
	return out
}

// errStep is the error of a step that cannot be carried out.
var errStep = errors.New("a step cannot be carried out")

// stopped is an error with the index of the step at which it was.
type stopped struct {
	error
	at int
}

func (s stopped) Unwrap() error { return s.error }

// state is a panel while steps to a filling are carried out.
type state struct {
	*task
	filling picks
	scores  []api.Score // those that are still to be made
	present set
	holds   [api.MaxLift]api.Held // without a Pane, where there is nothing
}

func newState(t *task, f picks, scores []api.Score) *state {
	return &state{t, f, scores, t.all(), t.found}
}

// carryOut carries out steps, up to the first one that cannot be.
func (s *state) carryOut(steps []api.Step) error {
	for at, x := range steps {
		if err := s.carry(x); err != nil {
			return stopped{err, at}
		}
	}
	return nil
}

// carry carries out a step.
func (s *state) carry(x api.Step) error {
	switch {
	case x.Kind == api.StepCut && x.Pane == 0:
		return s.makeScore(x.Score)
	case !within(x.Pane, 1, len(s.panes)) || !sameScore(x.Score, api.Score{}):
		return errStep
	case x.Kind == api.StepOut:
		return s.takeOut(x.Pane - 1)
	case x.Kind == api.StepIn:
		return s.putIn(x.Pane - 1)
	}
	return errStep
}

// takeOut takes out what is in a pane.
func (s *state) takeOut(i int) error {
	if !s.free(i, s.present) {
		return errStep
	}
	s.present[i], s.holds[i] = false, api.Held{}
	return nil
}

// makeScore makes the next score.
func (s *state) makeScore(x api.Score) error {
	if len(s.scores) == 0 || !sameScore(x, s.scores[0]) {
		return errStep
	}
	s.scores = s.scores[1:]
	return nil
}

// putIn puts the option of a pane in.
func (s *state) putIn(i int) error {
	o := s.problem.Options[i][s.filling[i]-1]
	uncut := s.change(i, o) == api.ChangeNew && len(s.scores) > 0
	if s.present[i] || !s.free(i, s.present.with(i)) || s.inUse(o.Piece) || uncut {
		return errStep
	}
	s.present[i], s.holds[i] = true, holding(i+1, o)
	return nil
}

// free reports whether a pane is free among present ones.
func (s *state) free(i int, present set) bool {
	is, _ := leading.Free(s.panel, present.panes(), i+1)
	return is
}

// inUse reports whether a present pane holds a piece.
func (s *state) inUse(piece int) bool {
	return piece > 0 && slices.ContainsFunc(s.holds[:], func(h api.Held) bool { return h.Piece == piece })
}

// held returns what the panes hold.
func (s *state) held() []api.Held {
	var out []api.Held
	for _, h := range s.holds {
		if h.Pane > 0 {
			out = append(out, h)
		}
	}
	return out
}

// sameScore reports whether two scores are equal.
func sameScore(a, b api.Score) bool {
	return a.Sheet == b.Sheet && a.Kind == b.Kind && a.Want == b.Want && slices.Equal(a.Points, b.Points)
}

// CheckPlan returns OK if a plan can be carried out and comes to what it says.
func CheckPlan(j api.Job, p api.Plan) api.Errno {
	t, e := read(j)
	if e != api.OK {
		return e
	}
	f, e := t.filling(p.Filling)
	if e != api.OK || t.judge(f) != api.OK || !t.isPlan(f, p) {
		return api.ErrPlan
	}
	return api.OK
}

// isPlan reports whether a plan with a filling that it can have is right.
func (t *task) isPlan(f picks, p api.Plan) bool {
	cost, e := t.cost(f, p.Set)
	if e != api.OK || p.Cost != cost {
		return false
	}
	c, _ := t.glaze(f)
	if p.Cutting.Area != c.Area || !slices.Equal(p.Cutting.Placed, c.Placed) || !slices.EqualFunc(p.Cutting.Scores, c.Scores, sameScore) {
		return false
	}
	if keeps, _ := leading.Keeps(t.panel, t.needs(f), p.Positions); !keeps {
		return false
	}
	s := newState(t, f, c.Scores)
	return s.carryOut(p.Steps) == nil && slices.Equal(s.held(), t.holdings(f)) && slices.Equal(takenOut(p.Steps), p.Set)
}

// takenOut returns the panes that steps take out, not decreasing.
func takenOut(steps []api.Step) []int {
	var out []int
	for _, x := range steps {
		if x.Kind == api.StepOut {
			out = append(out, x.Pane)
		}
	}
	slices.Sort(out)
	return out
}

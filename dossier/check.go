package dossier

import (
	"iter"
	"slices"

	"leadlight/api"
	"leadlight/evidence"
	"leadlight/places"
	"leadlight/plans"
)

// Check returns what is wrong with a dossier.
func Check(d api.Dossier) []api.Finding {
	if plans.Check(d.Job) != api.OK {
		return []api.Finding{{Kind: api.FindJob}}
	}
	p, _ := evidence.Compile(d.Job.Case, d.Job.Year)
	count, possible, e := places.Check(p, d.Survey)
	if e != api.OK {
		return []api.Finding{{Kind: api.FindSurvey}}
	}
	c := checker{d, p, count, possible}
	return slices.Concat(c.clash(), c.choices(), c.plan(), c.proof())
}

// checker checks a dossier of a valid job, whose survey is right: what the survey shows is known.
type checker struct {
	api.Dossier
	problem  api.Problem
	count    int
	possible [][]bool
}

// found returns a finding, if something is wrong.
func found(wrong bool, kind, index int) []api.Finding {
	if !wrong {
		return nil
	}
	return []api.Finding{{Kind: kind, Index: index}}
}

// clash returns what is wrong with Clash, Alone and Hits.
func (c checker) clash() []api.Finding {
	if c.count > 0 {
		none := len(c.Clash) == 0 && isNoNode(c.Alone) && len(c.Hits) == 0
		return found(!none, api.FindClash, 0)
	}
	if !c.namesItems() {
		return found(true, api.FindClash, 0)
	}
	least := provesLeast(c.problem, c.Hits, len(c.Clash))
	return slices.Concat(found(!c.clashes(), api.FindClash, 1), found(!least, api.FindClash, 2))
}

// namesItems reports whether Clash is a set of items, and not empty.
func (c checker) namesItems() bool {
	items := itemsOf(c.problem)
	for i, item := range c.Clash {
		if !slices.Contains(items, item) || i > 0 && item <= c.Clash[i-1] {
			return false
		}
	}
	return len(c.Clash) > 0
}

// clashes reports whether Alone shows that no filling agrees with the items of Clash.
func (c checker) clashes() bool {
	alone, _ := places.Only(c.problem, c.Clash)
	n, _, e := places.Check(alone, c.Alone)
	return e == api.OK && n == 0
}

// spot is an option of a pane, both by their indices.
type spot struct{ pane, option int }

// spotsOf yields the options that are possible, in order.
func spotsOf(possible [][]bool) iter.Seq[spot] {
	return func(yield func(spot) bool) {
		for pane, l := range possible {
			for option, is := range l {
				if is && !yield(spot{pane, option}) {
					return
				}
			}
		}
	}
}

// choices returns what is wrong with Choices.
func (c checker) choices() []api.Finding {
	i := 0
	for s := range spotsOf(c.possible) {
		if i == len(c.Choices) || !c.tells(c.Choices[i], s) {
			return found(true, api.FindChoice, i)
		}
		i++
	}
	return found(i < len(c.Choices), api.FindChoice, i)
}

// tells reports whether a choice tells an option of a pane, with a filling that agrees and has it.
func (c checker) tells(x api.Choice, s spot) bool {
	agrees, _ := places.Agrees(c.problem, x.Witness)
	return x.Pane == c.problem.Panes[s.pane] && x.Option == c.problem.Options[s.pane][s.option] && agrees && x.Witness[s.pane] == s.option
}

// plan returns what is wrong with Plan and Trouble.
func (c checker) plan() []api.Finding {
	if c.Trouble == api.OK {
		return found(plans.CheckPlan(c.Job, c.Plan) != api.OK, api.FindPlan, 0)
	}
	return slices.Concat(found(!isNoPlan(c.Plan), api.FindPlan, 0), found(c.Trouble != c.trouble(), api.FindPlan, 1))
}

// trouble returns the only trouble that there can be.
func (c checker) trouble() api.Errno {
	if c.count == 0 {
		return api.ErrAgree
	}
	return best(c.Job, c.problem, c.Survey)
}

// proof returns what is wrong with Proof and Bound.
func (c checker) proof() []api.Finding {
	if c.count == 0 {
		return found(!isNoProof(c.Proof) || c.Bound != 0, api.FindProof, 0)
	}
	bound := api.NoPlan
	if c.Trouble == api.OK {
		bound = c.Plan.Cost
	}
	e, _ := plans.CheckProof(c.Job, c.Bound, c.Proof)
	return found(c.Bound != bound || e != api.OK, api.FindProof, 0)
}

func isNoNode(n api.Node) bool { return n.Kind == 0 && n.Index == 0 && len(n.Kids) == 0 }

func isNoPlan(p api.Plan) bool {
	return p.Cost == 0 && len(p.Filling) == 0 && len(p.Set) == 0 && len(p.Steps) == 0 && len(p.Positions) == 0 &&
		p.Cutting.Area == 0 && len(p.Cutting.Placed) == 0 && len(p.Cutting.Scores) == 0
}

func isNoProof(p api.Proof) bool {
	return p.Kind == 0 && p.Index == 0 && p.Loop.Axis == 0 && len(p.Loop.Bounds) == 0 && len(p.Kids) == 0
}

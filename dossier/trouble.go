package dossier

import (
	"slices"

	"leadlight/api"
	"leadlight/cutting"
	"leadlight/leading"
	"leadlight/web"
)

// best returns why a survey leaves no plan: what plans.Judge says of the filling that agrees and comes closest to a plan, or, if this could be a plan's target, ErrLift.
func best(j api.Job, p api.Problem, survey api.Node) api.Errno {
	x := newJury(j, p)
	x.hear(survey)
	return x.verdict
}

// jury judges the fillings of a survey, as plans.Judge would. But that would read the job anew for each one of up to MaxSpace fillings, so here what was found out of a part of the options holds for all fillings with it.
type jury struct {
	api.Job
	panel   api.Panel
	needs   [][]api.Need // of each option of each pane
	wants   [][]api.Want // likewise, without an ID, if nothing is wanted
	chosen  []int        // the options of the first panes
	closing map[[api.MaxLift]api.Need]bool
	cutting map[[api.MaxLift]int]bool // by the colours that the panes want
	verdict api.Errno
}

func newJury(j api.Job, p api.Problem) *jury {
	x := &jury{Job: j, panel: api.Panel{Web: j.Case.Web, Open: j.Open, Pins: j.Pins}, verdict: api.ErrClose}
	x.closing, x.cutting = map[[api.MaxLift]api.Need]bool{}, map[[api.MaxLift]int]bool{}
	panes, _ := web.Panes(j.Case.Web)
	for i, l := range p.Options {
		var needs []api.Need
		var wants []api.Want
		for _, o := range l {
			needs = append(needs, x.need(panes[i], o))
			wants = append(wants, x.want(panes[i], o))
		}
		x.needs, x.wants = append(x.needs, needs), append(x.wants, wants)
	}
	return x
}

// need returns the need of a pane with an option.
func (x *jury) need(pane api.Pane, o api.Option) api.Need {
	swell := 0
	for _, p := range x.Case.Pieces {
		if p.ID == o.Piece {
			swell = p.Swell
		}
	}
	w, _ := leading.NeedOf(x.panel, pane.ID, swell)
	return api.Need{Pane: pane.ID, W: w}
}

// want returns the want of a pane with an option, if there is one.
func (x *jury) want(pane api.Pane, o api.Option) api.Want {
	if o.Piece > 0 || slices.Contains(x.Found, api.Held{Pane: pane.ID, Colour: o.Colour}) {
		return api.Want{}
	}
	return api.Want{ID: pane.ID, Colour: o.Colour, Outline: pane.Outline}
}

// hear lets the verdict be on the fillings with the chosen options, too.
func (x *jury) hear(n api.Node) {
	if x.verdict == api.ErrLift || !x.closes() {
		return
	}
	glazes := x.glazes()
	if !glazes && x.verdict == api.ErrGlass {
		return
	}
	if n.Kind == api.NodeAgree {
		x.verdict = api.ErrGlass
		if glazes {
			x.verdict = api.ErrLift
		}
	}
	for option, kid := range n.Kids {
		x.chosen = append(x.chosen, option)
		x.hear(kid)
		x.chosen = x.chosen[:len(x.chosen)-1]
	}
}

// closes reports whether the panel closes with the chosen options.
func (x *jury) closes() bool {
	var key [api.MaxLift]api.Need
	for pane, option := range x.chosen {
		key[pane] = x.needs[pane][option]
	}
	closes, known := x.closing[key]
	if !known {
		_, e := leading.Close(x.panel, key[:len(x.chosen)])
		closes = e == api.OK
		x.closing[key] = closes
	}
	return closes
}

// glazes reports whether what the chosen options want can be cut.
func (x *jury) glazes() bool {
	var key [api.MaxLift]int
	var wants []api.Want
	for pane, option := range x.chosen {
		w := x.wants[pane][option]
		key[pane] = w.Colour
		if w.ID > 0 {
			wants = append(wants, w)
		}
	}
	glazes, known := x.cutting[key]
	if !known {
		_, e := cutting.Cut(wants, x.Sheets, x.Bite)
		glazes = e == api.OK
		x.cutting[key] = glazes
	}
	return glazes
}

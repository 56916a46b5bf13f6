package dossier_test

import (
	"maps"
	"slices"
	"testing"

	"leadlight/api"
	"leadlight/dossier"
	"leadlight/evidence"
	"leadlight/leading"
	"leadlight/plans"
	"leadlight/web"
)

// wantHeld is what a pane holds with an option.
func wantHeld(pane int, o api.Option) api.Held {
	h := api.Held{Pane: pane, Piece: o.Piece, Setting: o.Setting}
	if o.Piece == 0 {
		h = api.Held{Pane: pane, Colour: o.Colour}
	}
	return h
}

// waysToAgree returns the agreeing fillings of a survey, whatever tree it is.
func waysToAgree(n api.Node, way []int) [][]int {
	var out [][]int
	if n.Kind == 2 {
		out = append(out, slices.Clone(way))
	}
	for k, kid := range n.Kids {
		out = append(out, waysToAgree(kid, append(slices.Clone(way), k))...)
	}
	return out
}

// panesOf returns the panes of the choices, rising, each once.
func panesOf(d api.Dossier) []int {
	panes := map[int]bool{}
	for _, c := range d.Choices {
		panes[c.Pane] = true
	}
	return slices.Sorted(maps.Keys(panes))
}

// wantPlace is the rule of Place.
func wantPlace(d api.Dossier, piece int) ([]int, bool, api.Errno) {
	switch {
	case plans.Check(d.Job) != api.OK:
		return nil, false, api.ErrDossier
	case !slices.ContainsFunc(d.Job.Case.Pieces, func(p api.Piece) bool { return p.ID == piece }):
		return nil, false, api.ErrNone
	}
	var panes []int
	for _, pane := range panesOf(d) {
		if slices.ContainsFunc(d.Choices, func(c api.Choice) bool { return c.Pane == pane && c.Option.Piece == piece }) {
			panes = append(panes, pane)
		}
	}
	p := problemOf(d.Job)
	for _, way := range waysToAgree(d.Survey, nil) {
		has := false
		for i, l := range p.Options {
			has = has || i < len(way) && way[i] < len(l) && l[way[i]].Piece == piece
		}
		if !has {
			return panes, true, api.OK
		}
	}
	return panes, false, api.OK
}

// wantForced is the rule of Forced.
func wantForced(d api.Dossier) ([]api.Held, api.Errno) {
	var out []api.Held
	for _, pane := range panesOf(d) {
		var l []api.Option
		for _, c := range d.Choices {
			if c.Pane == pane {
				l = append(l, c.Option)
			}
		}
		if len(l) == 1 {
			out = append(out, wantHeld(pane, l[0]))
		}
	}
	if len(out) == 0 {
		return nil, api.ErrNone
	}
	return out, api.OK
}

// wantWitness is the rule of Witness.
func wantWitness(d api.Dossier, pane int, o api.Option) ([]api.Held, api.Errno) {
	if plans.Check(d.Job) != api.OK {
		return nil, api.ErrDossier
	}
	p := problemOf(d.Job)
	for _, c := range d.Choices {
		if c.Pane != pane || c.Option != o {
			continue
		}
		var out []api.Held
		for i, k := range c.Witness {
			if i >= len(p.Options) || k < 0 || k >= len(p.Options[i]) {
				return nil, api.ErrDossier
			}
			out = append(out, wantHeld(i+1, p.Options[i][k]))
		}
		if len(out) != len(p.Panes) {
			return nil, api.ErrDossier
		}
		return out, api.OK
	}
	return nil, api.ErrNone
}

// wantTarget is the rule of Target.
func wantTarget(d api.Dossier) ([]api.Held, api.Errno) {
	panes, _ := web.Panes(d.Job.Case.Web)
	switch {
	case d.Trouble != api.OK:
		return nil, api.ErrNone
	case plans.Check(d.Job) != api.OK || len(panes) != len(d.Plan.Filling):
		return nil, api.ErrDossier
	}
	var out []api.Held
	for i, o := range d.Plan.Filling {
		out = append(out, wantHeld(i+1, o))
	}
	return out, api.OK
}

// wantDisturbed is the rule of Disturbed.
func wantDisturbed(d api.Dossier) ([]int, []int, api.Errno) {
	if d.Trouble != api.OK {
		return nil, nil, api.ErrNone
	}
	leads, e := leading.Opened(api.Panel{Web: d.Job.Case.Web, Open: d.Job.Open, Pins: d.Job.Pins}, d.Plan.Set)
	if plans.Check(d.Job) != api.OK || e != api.OK {
		return nil, nil, api.ErrDossier
	}
	return d.Plan.Set, leads, api.OK
}

// answers checks all answers of a dossier, and counts their errors.
func answers(t *testing.T, d api.Dossier, count map[[2]int]int) {
	t.Helper()
	kept := plain(d)
	see := func(question int, e api.Errno, same bool, got ...any) {
		count[[2]int{question, int(e)}]++
		if !same {
			t.Fatal("question", question, d, got)
		}
	}
	for _, pane := range []int{-1, 0, 1, 2, 3, 4, 9, 65536} {
		var want []api.Option
		for _, c := range d.Choices {
			if c.Pane == pane {
				want = append(want, c.Option)
			}
		}
		got, e := dossier.Content(d, pane)
		see(1, e, slices.Equal(got, want) && (e == api.OK) == (len(want) > 0) && (e == api.OK || e == api.ErrNone), got, e)
		options := append(want, api.Option{}, api.Option{Piece: 1, Colour: 1})
		for _, o := range options {
			got, e := dossier.Witness(d, pane, o)
			want, f := wantWitness(d, pane, o)
			see(2, e, e == f && slices.Equal(got, want), pane, o, got, e)
		}
	}
	for _, piece := range []int{-1, 0, 1, 2, 3, 5, 7, 9} {
		panes, nowhere, e := dossier.Place(d, piece)
		want, lost, f := wantPlace(d, piece)
		see(3, e, e == f && nowhere == lost && slices.Equal(panes, want), piece, panes, nowhere, e)
	}
	forced, e := dossier.Forced(d)
	wantedForced, f := wantForced(d)
	see(4, e, e == f && slices.Equal(forced, wantedForced), forced, e)
	target, e := dossier.Target(d)
	wantedTarget, f := wantTarget(d)
	see(5, e, e == f && slices.Equal(target, wantedTarget), target, e)
	panes, leads, e := dossier.Disturbed(d)
	wantedPanes, wantedLeads, f := wantDisturbed(d)
	see(6, e, e == f && slices.Equal(panes, wantedPanes) && slices.Equal(leads, wantedLeads), panes, leads, e)
	spoil(panes)
	spoil(leads)
	if !sameValue(d, kept) {
		t.Fatal("an answer shares memory with its dossier", d)
	}
}

// TestAnswers checks answers of dossiers that are right, and of any others.
func TestAnswers(t *testing.T) {
	t.Parallel()
	count := map[[2]int]int{}
	d := throw(18)
	answers(t, api.Dossier{}, count)
	answers(t, anything(), count)
	for _, x := range built() {
		answers(t, x, count)
		for range 3 {
			answers(t, d.damaged(x), count)
		}
	}
	for question, errors := range map[int][]api.Errno{1: {0, 3}, 2: {0, 3, 101}, 3: {0, 3, 101}, 4: {0, 3}, 5: {0, 3, 101}, 6: {0, 3, 101}} {
		for _, e := range errors {
			if count[[2]int{question, int(e)}] < 15 {
				t.Error("few answers", question, e, count)
			}
		}
	}
}

// TestStrangeSurveys checks Place where the survey is no lawful one.
func TestStrangeSurveys(t *testing.T) {
	d := build(t, example())
	p := problemOf(d.Job)
	last := len(p.Options[0]) - 1 // new glass
	leaf := api.Node{Kind: api.NodeAgree}
	kids := func(n int, at map[int]api.Node) api.Node {
		out := api.Node{Kind: 7, Kids: make([]api.Node, n)}
		for k, kid := range at {
			out.Kids[k] = kid
		}
		return out
	}
	over := leaf
	over.Kids = []api.Node{leaf}
	for k, x := range []struct {
		survey  api.Node
		nowhere bool
	}{
		{leaf, true},          // no pane has an option
		{kids(1, nil), false}, // no filling agrees
		{kids(1, map[int]api.Node{0: leaf}), false},
		{kids(9+last, map[int]api.Node{8 + last: leaf}), true}, // an option that there is not
		{kids(last+1, map[int]api.Node{last: leaf}), true},
		{kids(last+1, map[int]api.Node{last: kids(1, map[int]api.Node{0: leaf})}), false},
		{kids(last+1, map[int]api.Node{last: kids(1, map[int]api.Node{0: leaf}), 0: leaf}), false},
		{kids(last+1, map[int]api.Node{last: kids(last+1, map[int]api.Node{last: kids(1, map[int]api.Node{0: leaf})})}), true}, // one pane too many
		{kids(1, map[int]api.Node{0: kids(last+1, map[int]api.Node{last: kids(1, map[int]api.Node{0: leaf})})}), false},
		{over, true},
		{kids(1, map[int]api.Node{0: over}), false},
	} {
		d.Survey = x.survey
		panes, nowhere, e := dossier.Place(d, 9)
		if e != api.OK || nowhere != x.nowhere || !slices.Equal(panes, []int{2}) {
			t.Error("Place", k, panes, nowhere, e)
		}
	}
	d.Survey = chain(65536)
	d.Survey.Kids[0].Kind = api.NodeAgree
	if _, nowhere, e := dossier.Place(d, 9); nowhere || e != api.OK {
		t.Error("a deep survey", nowhere, e)
	}
}

// TestOddChoices checks that answers come from the fields, and in their order.
func TestOddChoices(t *testing.T) {
	d := build(t, example())
	l, _ := evidence.Options(d.Job.Case, 1, d.Job.Year)
	d.Choices = []api.Choice{
		{Pane: 7, Option: api.Option{Piece: 9, Colour: 5}}, {Pane: 2, Option: l[0], Witness: []int{0, 9}}, {Pane: 1, Option: l[1], Witness: []int{0, 1}},
		{Pane: 2, Option: l[0], Witness: []int{0, 0}}, {Pane: -3, Option: api.Option{Colour: 2, Setting: api.Setting{Shift: 3, Back: true}}}, {Pane: 7000, Option: api.Option{Piece: -2, Colour: 3}},
	}
	d.Choices[3].Witness = []int{0, 9, 0}
	forced, e := dossier.Forced(d)
	if e != api.OK || !slices.Equal(forced, []api.Held{{Pane: -3, Colour: 2}, {Pane: 1, Piece: 9, Setting: l[1].Setting}, {Pane: 7, Piece: 9}, {Pane: 7000, Piece: -2}}) {
		t.Error("Forced", forced, e)
	}
	panes, _, e := dossier.Place(d, 9)
	if e != api.OK || !slices.Equal(panes, []int{1, 2, 7}) {
		t.Error("Place", panes, e)
	}
	content, e := dossier.Content(d, 2)
	if e != api.OK || !slices.Equal(content, []api.Option{l[0], l[0]}) {
		t.Error("Content", content, e)
	}
	if h, e := dossier.Witness(d, 2, l[0]); e != api.OK || len(h) != 2 || h[1] != wantHeld(2, problemOf(d.Job).Options[1][9]) {
		t.Error("the first witness", h, e)
	}
}

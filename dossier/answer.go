package dossier

import (
	"cmp"
	"slices"

	"leadlight/api"
	"leadlight/evidence"
	"leadlight/leading"
	"leadlight/plans"
	"leadlight/web"
)

// Content returns what can belong in a pane.
func Content(d api.Dossier, pane int) ([]api.Option, api.Errno) {
	var out []api.Option
	for _, c := range d.Choices {
		if c.Pane == pane {
			out = append(out, c.Option)
		}
	}
	return some(out)
}

// some returns a list, or ErrNone, if it is empty.
func some[T any](l []T) ([]T, api.Errno) {
	if len(l) == 0 {
		return nil, api.ErrNone
	}
	return l, api.OK
}

// Place returns where a piece can belong.
func Place(d api.Dossier, piece int) (panes []int, nowhere bool, err api.Errno) {
	if plans.Check(d.Job) != api.OK {
		return nil, false, api.ErrDossier
	}
	if !slices.ContainsFunc(d.Job.Case.Pieces, func(p api.Piece) bool { return p.ID == piece }) {
		return nil, false, api.ErrNone
	}
	for _, c := range d.Choices {
		if c.Option.Piece == piece {
			panes = append(panes, c.Pane)
		}
	}
	slices.Sort(panes)
	p, _ := evidence.Compile(d.Job.Case, d.Job.Year)
	return slices.Compact(panes), without(p.Options, d.Survey, piece), api.OK
}

// without reports whether below a node there is an agreeing filling in which none of the panes has a piece. The panes are those for which no option has been chosen ahead of the node.
func without(panes [][]api.Option, n api.Node, piece int) bool {
	if n.Kind == api.NodeAgree {
		return true
	}
	for option, kid := range n.Kids {
		if len(panes) == 0 {
			if without(nil, kid, piece) {
				return true
			}
			continue
		}
		has := option < len(panes[0]) && panes[0][option].Piece == piece
		if !has && without(panes[1:], kid, piece) {
			return true
		}
	}
	return false
}

// holding returns what a pane holds with an option.
func holding(pane int, o api.Option) api.Held {
	if o.Piece == 0 {
		return api.Held{Pane: pane, Colour: o.Colour}
	}
	return api.Held{Pane: pane, Piece: o.Piece, Setting: o.Setting}
}

// holdings returns what the panes 1, 2, .. hold with options.
func holdings(l []api.Option) []api.Held {
	var out []api.Held
	for i, o := range l {
		out = append(out, holding(i+1, o))
	}
	return out
}

// Forced returns the panes with just one option.
func Forced(d api.Dossier) ([]api.Held, api.Errno) {
	times := map[int]int{}
	for _, c := range d.Choices {
		times[c.Pane]++
	}
	var out []api.Held
	for _, c := range d.Choices {
		if times[c.Pane] == 1 {
			out = append(out, holding(c.Pane, c.Option))
		}
	}
	slices.SortFunc(out, func(a, b api.Held) int { return cmp.Compare(a.Pane, b.Pane) })
	return some(out)
}

// Witness returns a filling with an option.
func Witness(d api.Dossier, pane int, o api.Option) ([]api.Held, api.Errno) {
	if plans.Check(d.Job) != api.OK {
		return nil, api.ErrDossier
	}
	k := slices.IndexFunc(d.Choices, func(c api.Choice) bool { return c.Pane == pane && c.Option == o })
	if k < 0 {
		return nil, api.ErrNone
	}
	l, e := evidence.Chosen(d.Job.Case, d.Job.Year, d.Choices[k].Witness)
	if e != api.OK {
		return nil, api.ErrDossier
	}
	return holdings(l), api.OK
}

// Target returns what the panes hold after the plan.
func Target(d api.Dossier) ([]api.Held, api.Errno) {
	if d.Trouble != api.OK {
		return nil, api.ErrNone
	}
	panes, _ := web.Panes(d.Job.Case.Web)
	if plans.Check(d.Job) != api.OK || len(d.Plan.Filling) != len(panes) {
		return nil, api.ErrDossier
	}
	return holdings(d.Plan.Filling), api.OK
}

// Disturbed returns the panes that the plan lifts and the leads that it opens.
func Disturbed(d api.Dossier) (panes, leads []int, err api.Errno) {
	if d.Trouble != api.OK {
		return nil, nil, api.ErrNone
	}
	panel, e := plans.Panel(d.Job)
	if e != api.OK {
		return nil, nil, api.ErrDossier
	}
	leads, e = leading.Opened(panel, d.Plan.Set)
	if e != api.OK {
		return nil, nil, api.ErrDossier
	}
	return slices.Clone(d.Plan.Set), leads, api.OK
}

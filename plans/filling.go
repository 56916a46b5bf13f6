package plans

import (
	"iter"
	"slices"

	"leadlight/api"
	"leadlight/evidence"
)

// Change returns how an option changes a pane.
func Change(j api.Job, pane int, o api.Option) (int, api.Errno) {
	t, e := read(j)
	if e != api.OK {
		return 0, e
	}
	if !within(pane, 1, len(t.panes)) || !slices.Contains(t.problem.Options[pane-1], o) {
		return 0, api.ErrNone
	}
	return t.change(pane-1, o), api.OK
}

// Changed returns the panes that a filling changes.
func Changed(j api.Job, l []api.Option) ([]int, api.Errno) {
	t, f, e := readFilling(j, l)
	if e != api.OK {
		return nil, e
	}
	return t.changed(f).panes(), api.OK
}

// Needs returns the needs of all panes of a filling.
func Needs(j api.Job, l []api.Option) ([]api.Need, api.Errno) {
	t, f, e := readFilling(j, l)
	if e != api.OK {
		return nil, e
	}
	return t.needs(f), api.OK
}

// Wants returns the pieces of new glass that a filling wants.
func Wants(j api.Job, l []api.Option) ([]api.Want, api.Errno) {
	t, f, e := readFilling(j, l)
	if e != api.OK {
		return nil, e
	}
	return t.wants(f), api.OK
}

// picks says which options are chosen: of each pane 1 more than the index of its option, or 0, if none is. A filling has an option of each pane.
type picks [api.MaxLift]int

// readFilling returns a job with a filling of it, or the error of Check or of evidence.Filling.
func readFilling(j api.Job, l []api.Option) (*task, picks, api.Errno) {
	t, e := read(j)
	if e != api.OK {
		return nil, picks{}, e
	}
	f, e := t.filling(l)
	return t, f, e
}

// filling returns a list of options as picks, or the error of evidence.Filling.
func (t *task) filling(l []api.Option) (picks, api.Errno) {
	at, e := evidence.Filling(t.Case, t.Year, l)
	if e != api.OK {
		return picks{}, e
	}
	var f picks
	for i, k := range at {
		f[i] = k + 1
	}
	return f, api.OK
}

// indices returns the indices of the options of a filling.
func (t *task) indices(f picks) []int {
	var out []int
	for i := range t.panes {
		out = append(out, f[i]-1)
	}
	return out
}

// chosen yields the chosen options, with the indices of their panes.
func (t *task) chosen(p picks) iter.Seq2[int, api.Option] {
	return func(yield func(int, api.Option) bool) {
		for i, l := range t.problem.Options {
			if p[i] > 0 && !yield(i, l[p[i]-1]) {
				return
			}
		}
	}
}

// options returns the chosen options.
func (t *task) options(p picks) []api.Option {
	var out []api.Option
	for _, o := range t.chosen(p) {
		out = append(out, o)
	}
	return out
}

// holding returns what a pane holds with an option.
func holding(pane int, o api.Option) api.Held {
	if o.Piece == 0 {
		return api.Held{Pane: pane, Colour: o.Colour}
	}
	return api.Held{Pane: pane, Piece: o.Piece, Setting: o.Setting}
}

// holdings returns what the panes hold with the chosen options.
func (t *task) holdings(p picks) []api.Held {
	var out []api.Held
	for i, o := range t.chosen(p) {
		out = append(out, holding(i+1, o))
	}
	return out
}

// change returns how an option changes a pane.
func (t *task) change(i int, o api.Option) int {
	was := t.found[i]
	switch {
	case was == holding(i+1, o):
		return api.ChangeNone
	case o.Piece == 0:
		return api.ChangeNew
	case was.Piece == o.Piece:
		return api.ChangeTurn
	}
	return api.ChangeMove
}

// changed returns the panes that the chosen options change.
func (t *task) changed(p picks) set {
	var out set
	for i, o := range t.chosen(p) {
		out[i] = t.change(i, o) != api.ChangeNone
	}
	return out
}

// price returns the sum of the prices of the chosen options.
func (t *task) price(p picks) int {
	prices := [...]int{api.ChangeNone: 0, api.ChangeTurn: t.Turn, api.ChangeMove: t.Move, api.ChangeNew: t.New}
	sum := 0
	for i, o := range t.chosen(p) {
		sum += prices[t.change(i, o)]
	}
	return sum
}

// needs returns the needs of the chosen options.
func (t *task) needs(p picks) []api.Need {
	var out []api.Need
	for i, o := range t.chosen(p) {
		out = append(out, api.Need{Pane: i + 1, W: t.width(i, t.swells[o.Piece])})
	}
	return out
}

// wants returns the wants of the chosen options.
func (t *task) wants(p picks) []api.Want {
	var out []api.Want
	for i, o := range t.chosen(p) {
		if t.change(i, o) == api.ChangeNew {
			out = append(out, api.Want{ID: i + 1, Colour: o.Colour, Outline: t.panes[i].Outline})
		}
	}
	return out
}

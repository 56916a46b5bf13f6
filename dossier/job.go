package dossier

import (
	"slices"

	"leadlight/api"
	"leadlight/benches"
	"leadlight/evidence"
	"leadlight/glass"
	"leadlight/plans"
	"leadlight/web"
)

// ValidBase reports whether a base is valid.
func ValidBase(b api.Base) bool { return plans.Check(bare(b)) != api.ErrJob }

// JobOf returns the job of a register.
func JobOf(b api.Base, r api.Register, year int) (api.Job, api.Errno) {
	switch {
	case !ValidBase(b):
		return api.Job{}, api.ErrBase
	case !within(year, 0, api.MaxYear):
		return api.Job{}, api.ErrArg
	}
	j := bare(b)
	j.Year = year
	j.Case.Pieces = piecesOf(r)
	j.Case.Items = itemsFor(j.Case, r.Items)
	j.Case.Releads = releadsFor(b, r.Releads)
	j.Found = foundIn(j.Case, benches.Found(r))
	if e := plans.Check(j); e != api.OK {
		return api.Job{}, e
	}
	return own(j), api.OK
}

// bare returns the job of a base of which nothing is known.
func bare(b api.Base) api.Job {
	c := api.Case{Web: b.Panel.Web, Palette: b.Palette, Films: b.Films}
	return api.Job{Case: c, Open: b.Panel.Open, Pins: b.Panel.Pins, Sheets: b.Sheets, Bite: b.Bite, Turn: b.Turn, Move: b.Move, New: b.New}
}

// take returns the first elements of a list that are as they must be, at most most of them. Whether an element must be taken may depend on what was taken before.
func take[T any](l []T, most int, must func(x T, taken []T) bool) []T {
	var out []T
	for _, x := range l {
		if len(out) < most && must(x, out) {
			out = append(out, x)
		}
	}
	return out
}

// after reports whether an ID is greater than those that were taken, which rise.
func after[T any](id int, taken []T, of func(T) int) bool {
	return len(taken) == 0 || id > of(taken[len(taken)-1])
}

func pieceID(p api.Piece) int { return p.ID }
func itemID(x api.Item) int   { return x.ID }

// piecesOf returns the pieces of a register that a case can have.
func piecesOf(r api.Register) []api.Piece {
	return take(r.Pieces, api.MaxPieces, func(p api.Piece, taken []api.Piece) bool {
		if !glass.ValidPiece(p) || !after(p.ID, taken, pieceID) {
			return false
		}
		at, _ := benches.WhereIs(r, p.ID)
		return at.Kind != api.Broken
	})
}

// itemsFor returns the items that a case can have.
func itemsFor(c api.Case, l []api.Item) []api.Item {
	return take(l, api.MaxItems, func(x api.Item, taken []api.Item) bool {
		return after(x.ID, taken, itemID) && evidence.ValidItem(c, x)
	})
}

// releadsFor returns the releadings that a case with the web of a base can have.
func releadsFor(b api.Base, l []api.Relead) []api.Relead {
	return take(l, api.MaxReleads, func(x api.Relead, _ []api.Relead) bool {
		c := api.Case{Web: b.Panel.Web, Palette: b.Palette, Releads: []api.Relead{x}}
		e, _ := evidence.Check(c)
		return e == api.OK
	})
}

// foundIn returns what can have been found in the panes of a case.
func foundIn(c api.Case, l []api.Held) []api.Held {
	panes, _ := web.Panes(c.Web)
	return take(l, len(panes), func(h api.Held, taken []api.Held) bool {
		if !within(h.Pane, 1, len(panes)) {
			return false
		}
		if h.Piece == 0 {
			return within(h.Colour, 1, c.Palette) && h.Setting == api.Setting{}
		}
		known := slices.ContainsFunc(c.Pieces, func(p api.Piece) bool { return p.ID == h.Piece })
		used := slices.ContainsFunc(taken, func(t api.Held) bool { return t.Piece == h.Piece })
		return known && !used && h.Colour == 0 && within(h.Setting.Shift, 0, api.MaxCorners-1)
	})
}

// own returns a job that shares no memory with another one: what is read from bytes shares none.
func own(j api.Job) api.Job {
	parts, _ := Parts(api.Dossier{Job: j})
	d, _ := read(parts)
	return d.Job
}

// within reports whether n is from lo to hi.
func within(n, lo, hi int) bool { return lo <= n && n <= hi }

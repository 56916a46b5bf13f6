package evidence

import (
	"iter"
	"slices"

	"leadlight/api"
	"leadlight/glass"
	"leadlight/plane"
)

// Whole returns the two panes of which a lead is a whole edge, and these edges.
func Whole(c api.Case, lead int) (a, edge, b, other int, e api.Errno) {
	k, e := read(c)
	if e != api.OK {
		return 0, 0, 0, 0, e
	}
	left, right, e := k.whole(lead)
	return left.pane, left.edge, right.pane, right.edge, e
}

// Fitting returns the settings by which a piece fits a pane and is held.
func Fitting(c api.Case, pane, piece int) ([]api.Setting, api.Errno) {
	k, e := read(c)
	if e != api.OK {
		return nil, e
	}
	at, e := k.pane(pane)
	if e != api.OK {
		return nil, e
	}
	p, e := k.piece(piece)
	if e != api.OK {
		return nil, e
	}
	return k.fitting(at, p), api.OK
}

// Options returns the options of a pane in a year.
func Options(c api.Case, pane, year int) ([]api.Option, api.Errno) {
	k, e := readYear(c, year)
	if e != api.OK {
		return nil, e
	}
	at, e := k.pane(pane)
	if e != api.OK {
		return nil, e
	}
	return k.optionsOf(at, year)
}

// Index returns the index of an option.
func Index(c api.Case, pane, year int, o api.Option) (int, api.Errno) {
	l, e := Options(c, pane, year)
	if e != api.OK {
		return 0, e
	}
	return index(l, o)
}

// Marked returns the marks that an option shows on an edge of a pane.
func Marked(c api.Case, pane int, o api.Option, edge int) ([]api.Mark, api.Errno) {
	k, e := read(c)
	if e != api.OK {
		return nil, e
	}
	at, e := k.pane(pane)
	if e != api.OK {
		return nil, e
	}
	n := len(at.Outline)
	if !within(edge, 0, n-1) {
		return nil, api.ErrNone
	}
	if lost(o) {
		return nil, api.OK
	}
	p, e := k.piece(o.Piece)
	if e != api.OK {
		return nil, e
	}
	if len(p.Gauges) != n || !plane.ValidSetting(o.Setting, n) {
		return nil, api.ErrArg
	}
	return k.marksOn(o, edge), api.OK
}

// border is an edge of a pane.
type border struct{ pane, edge int }

// whole returns the edges to the left and to the right of a whole lead.
func (k known) whole(lead int) (left, right border, e api.Errno) {
	left, e = k.alone(api.Side{Lead: lead})
	if e != api.OK {
		return border{}, border{}, e
	}
	right, e = k.alone(api.Side{Lead: lead, Back: true})
	if e != api.OK {
		return border{}, border{}, e
	}
	return left, right, api.OK
}

// alone returns the edge that a side alone makes up.
func (k known) alone(s api.Side) (border, api.Errno) {
	for _, pane := range k.panes {
		for edge, sides := range pane.Edges {
			if len(sides) == 1 && sides[0] == s {
				return border{pane.ID, edge}, api.OK
			}
		}
	}
	return border{}, api.ErrNone
}

// options yields the options of a pane in a year.
func (k known) options(pane api.Pane, year int) iter.Seq[api.Option] {
	return func(yield func(api.Option) bool) {
		for _, p := range k.Pieces {
			if !stands(p, year) {
				continue
			}
			for _, s := range k.fitting(pane, p) {
				colour, _ := glass.Shows(p, s)
				if !yield(api.Option{Piece: p.ID, Setting: s, Colour: colour}) {
					return
				}
			}
		}
		for colour := 1; colour <= k.Palette; colour++ {
			if !yield(api.Option{Colour: colour}) {
				return
			}
		}
	}
}

// optionsOf returns the options of a pane in a year, or ErrLimit if there are too many.
func (k known) optionsOf(pane api.Pane, year int) ([]api.Option, api.Errno) {
	var out []api.Option
	for o := range k.options(pane, year) {
		if len(out) == api.MaxOptions {
			return nil, api.ErrLimit
		}
		out = append(out, o)
	}
	return out, api.OK
}

// index returns the index of an option in a list.
func index(l []api.Option, o api.Option) (int, api.Errno) {
	at := slices.Index(l, o)
	if at < 0 {
		return 0, api.ErrNone
	}
	return at, api.OK
}

// fitting returns the settings by which a piece fits a pane, if it is held.
func (k known) fitting(pane api.Pane, p api.Piece) []api.Setting {
	if held, _ := glass.Held(p.Swell, k.flanges(pane)); !held {
		return nil
	}
	out, _ := glass.Settings(p, pane.Outline)
	return out
}

// flanges returns the flanges of a pane. web.Flange would check the whole web for each side anew.
func (k known) flanges(pane api.Pane) []int {
	side := map[api.Side]int{}
	for _, l := range k.Web.Leads {
		side[api.Side{Lead: l.ID}], side[api.Side{Lead: l.ID, Back: true}] = l.Left, l.Right
	}
	var out []int
	for _, s := range slices.Concat(pane.Edges...) {
		out = append(out, side[s])
	}
	return out
}

// marks returns the marks that an option shows, which are none if it is lost.
func (k known) marks(o api.Option) []api.Mark {
	p, e := k.piece(o.Piece)
	if e != api.OK {
		return nil
	}
	out, _ := glass.Marks(p, o.Setting)
	return out
}

// marksOn returns the marks that an option shows on an edge.
func (k known) marksOn(o api.Option, edge int) []api.Mark {
	out, _ := glass.On(k.marks(o), edge)
	return out
}

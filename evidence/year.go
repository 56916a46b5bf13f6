package evidence

import (
	"maps"
	"slices"

	"leadlight/api"
)

// Names returns the panes that an item names.
func Names(c api.Case, item int) ([]int, api.Errno) {
	k, x, e := readItem(c, item)
	if e != api.OK {
		return nil, e
	}
	return k.names(x), api.OK
}

// Silencer returns the index of the first releading that silences an item for a year, or -1.
func Silencer(c api.Case, item, year int) (int, api.Errno) {
	k, x, e := readItemYear(c, item, year)
	if e != api.OK {
		return 0, e
	}
	return k.silencer(x, year), api.OK
}

// Speaks reports whether an item speaks for a year.
func Speaks(c api.Case, item, year int) (bool, api.Errno) {
	at, e := Silencer(c, item, year)
	return e == api.OK && at < 0, e
}

// Spoken returns the items that speak for a year.
func Spoken(c api.Case, year int) ([]int, api.Errno) {
	k, e := readYear(c, year)
	if e != api.OK {
		return nil, e
	}
	var out []int
	for _, x := range k.Items {
		if k.silencer(x, year) < 0 {
			out = append(out, x.ID)
		}
	}
	return out, api.OK
}

// Reach returns all years for which an item speaks.
func Reach(c api.Case, item int) (api.Span, api.Errno) {
	k, x, e := readItem(c, item)
	if e != api.OK {
		return api.Span{}, e
	}
	return k.reach(x), api.OK
}

// Epochs returns the longest spans of years in which the same items speak and the same pieces are made.
func Epochs(c api.Case) ([]api.Span, api.Errno) {
	k, e := read(c)
	if e != api.OK {
		return nil, e
	}
	// With each of these years something begins, or has just ended, that nothing else makes up for.
	begins := map[int]bool{0: true}
	for _, x := range k.Items {
		s := k.reach(x)
		begins[s.Lo], begins[s.Hi+1] = true, true
	}
	for _, p := range k.Pieces {
		begins[p.Made] = true
	}
	begins[api.MaxYear+1] = true
	years := slices.Sorted(maps.Keys(begins))
	var out []api.Span
	for i, year := range years[1:] {
		out = append(out, api.Span{Lo: years[i], Hi: year - 1})
	}
	return out, api.OK
}

// Standing returns the pieces that were made by a year.
func Standing(c api.Case, year int) ([]int, api.Errno) {
	k, e := readYear(c, year)
	if e != api.OK {
		return nil, e
	}
	var out []int
	for _, p := range k.Pieces {
		if stands(p, year) {
			out = append(out, p.ID)
		}
	}
	return out, api.OK
}

func stands(p api.Piece, year int) bool { return p.Made <= year }

// names returns the panes that an item names, which are those of its claims.
func (k known) names(x api.Item) []int {
	var out []int
	for _, said := range k.claims(x) {
		for _, i := range said.panes {
			out = append(out, k.panes[i].ID)
		}
	}
	slices.Sort(out)
	return slices.Compact(out)
}

// silencer returns the index of the first releading that silences an item for a year, or -1.
func (k known) silencer(x api.Item, year int) int {
	ends := k.ends(x)
	return slices.IndexFunc(k.Releads, func(r api.Relead) bool {
		return min(x.Year, year) < r.Year && r.Year <= max(x.Year, year) && ends(r)
	})
}

// reach returns the years for which an item speaks: from the last releading up to its year on, and until the first one after it.
func (k known) reach(x api.Item) api.Span {
	ends := k.ends(x)
	out := api.Span{Hi: api.MaxYear}
	for _, r := range k.Releads {
		switch {
		case !ends(r):
		case r.Year <= x.Year:
			out.Lo = max(out.Lo, r.Year)
		default:
			out.Hi = min(out.Hi, r.Year-1)
		}
	}
	return out
}

// ends returns whether a releading ends what an item can say, as it has a pane that the item names.
func (k known) ends(x api.Item) func(api.Relead) bool {
	named := map[int]bool{}
	for _, pane := range k.names(x) {
		named[pane] = true
	}
	return func(r api.Relead) bool {
		return slices.ContainsFunc(r.Panes, func(pane int) bool { return named[pane] })
	}
}

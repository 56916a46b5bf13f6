package benches

import (
	"maps"
	"slices"

	"leadlight/api"
)

// Fold returns the register that a set of notes amounts to.
func Fold(l []api.Note) (api.Register, api.Errno) {
	if !isSet(l) {
		return api.Register{}, api.ErrArg
	}
	return cloneRegister(fold(l, api.MaxYear)), api.OK
}

// AsOf returns the register of what was done by a year, as known by a clock.
func AsOf(l []api.Note, year, clock int) (api.Register, api.Errno) {
	if !isSet(l) {
		return api.Register{}, api.ErrArg
	}
	known := only(l, func(n api.Note) bool { return n.Clock <= clock })
	return cloneRegister(fold(known, year)), api.OK
}

// fold returns the register of what was done by a year. It shares memory with the set.
func fold(l []api.Note, year int) api.Register {
	done := newLedger()
	done.take(only(effective(l), func(n api.Note) bool { return n.Year <= year }))
	r := done.register()
	r.Conflicts = append(r.Conflicts, astray(l)...)
	slices.SortFunc(r.Conflicts, compareRefs)
	return r
}

// WhereIs returns where a piece is.
func WhereIs(r api.Register, piece int) (api.Where, api.Errno) {
	for _, w := range r.Where {
		if w.Piece == piece {
			return w, api.OK
		}
	}
	return api.Where{}, api.ErrNone
}

// Found returns what the panes hold.
func Found(r api.Register) []api.Held {
	var all []api.Held
	for _, w := range r.Where {
		if w.Kind == api.InPane {
			all = append(all, api.Held{Pane: w.At, Piece: w.Piece, Setting: w.Setting})
		}
	}
	found := map[int]api.Held{}
	for _, h := range append(all, r.New...) {
		if _, is := found[h.Pane]; !is {
			found[h.Pane] = h
		}
	}
	var out []api.Held
	for _, pane := range slices.Sorted(maps.Keys(found)) {
		out = append(out, found[pane])
	}
	return out
}

// Stays returns where a piece was, one stay after the other.
func Stays(l []api.Note, piece int) ([]api.Stay, api.Errno) {
	if !isSet(l) {
		return nil, api.ErrArg
	}
	done := newLedger()
	var out []api.Stay
	for _, n := range effective(l) {
		before := done.where[piece]
		done.take([]api.Note{n})
		if after := done.where[piece]; after != before {
			out = append(out, api.Stay{Year: n.Year, Ref: refOf(n), Where: after})
		}
	}
	if len(out) == 0 {
		return nil, api.ErrNone
	}
	return out, api.OK
}

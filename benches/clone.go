package benches

import (
	"slices"

	"leadlight/api"
)

// each returns the list of what a function makes of the elements of a list.
func each[T any](l []T, of func(T) T) []T {
	var out []T
	for _, x := range l {
		out = append(out, of(x))
	}
	return out
}

// only returns the elements of a list that are as they must be.
func only[T any](l []T, must func(T) bool) []T {
	var out []T
	for _, x := range l {
		if must(x) {
			out = append(out, x)
		}
	}
	return out
}

func cloneNotes(l []api.Note) []api.Note { return each(l, cloneNote) }

func cloneNote(n api.Note) api.Note {
	n.Pieces, n.Panes = slices.Clone(n.Pieces), slices.Clone(n.Panes)
	n.Data, n.Item = each(n.Data, clonePiece), cloneItem(n.Item)
	return n
}

func clonePiece(p api.Piece) api.Piece {
	p.Gauges, p.Marks = slices.Clone(p.Gauges), slices.Clone(p.Marks)
	return p
}

func cloneItem(x api.Item) api.Item {
	x.Panes, x.Colours, x.Sights = slices.Clone(x.Panes), slices.Clone(x.Colours), slices.Clone(x.Sights)
	return x
}

func cloneRelead(r api.Relead) api.Relead {
	r.Panes = slices.Clone(r.Panes)
	return r
}

func cloneRegister(r api.Register) api.Register {
	r.Pieces, r.Where, r.New = each(r.Pieces, clonePiece), slices.Clone(r.Where), slices.Clone(r.New)
	r.Items, r.Releads, r.Conflicts = each(r.Items, cloneItem), each(r.Releads, cloneRelead), slices.Clone(r.Conflicts)
	return r
}

func cloneMail(m api.Mail) api.Mail {
	m.Body = slices.Clone(m.Body)
	return m
}

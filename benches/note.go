// Package benches implements notes with two clocks, the register that they amount to, journals, and benches that exchange notes and trays. See shared/doc/09-benches.md.
package benches

import (
	"slices"

	"leadlight/api"
	"leadlight/glass"
)

// CheckNote returns OK if a note is well-formed.
func CheckNote(n api.Note) api.Errno {
	if !validStamp(n) || !validKind(n) || !ownIDs(n) {
		return api.ErrNote
	}
	return api.OK
}

// validStamp reports whether a note says properly who wrote it, and when.
func validStamp(n api.Note) bool {
	return validRef(refOf(n)) && within(n.Clock, 1, api.MaxClock) && within(n.Year, 0, api.MaxYear)
}

// validKind reports whether a note has a kind, and the content that it needs.
func validKind(n api.Note) bool {
	if !judges(n) {
		return n.Fix == 0 && validContent(n, n.Kind)
	}
	rest := n
	rest.Ref = api.Ref{}
	switch {
	case !validRef(n.Ref):
		return false
	case n.Kind == api.NoteWithdraw:
		return n.Fix == 0 && blank(rest)
	}
	return n.Fix != api.NoteGot && validContent(rest, n.Fix)
}

// judges reports whether a note is a correction or a withdrawal.
func judges(n api.Note) bool { return n.Kind == api.NoteCorrect || n.Kind == api.NoteWithdraw }

// validContent reports whether the content of a note is as it must be for a kind from NoteFind to NoteBreak.
func validContent(n api.Note, kind int) bool {
	valid, rest := false, n // rest is to keep what the kind does not use
	switch kind {
	case api.NoteFind:
		valid, rest.Data = len(n.Data) == 1 && validData(n.Data), nil
	case api.NoteRecord:
		valid, rest.Item = validRecord(n.Item), api.Item{}
	case api.NoteRelead:
		valid, rest.Panes = len(n.Panes) > 0 && rising(n.Panes, api.MaxPanes), nil
	case api.NoteSend:
		valid = within(len(n.Pieces), 1, api.MaxPieces) && rising(n.Pieces, api.MaxID) && within(n.To, 1, api.MaxBenches)
		rest.Pieces, rest.To = nil, 0
	case api.NoteGot:
		valid, rest.Ref = validRef(n.Ref), api.Ref{}
	case api.NoteSet:
		valid = within(n.Pane, 1, api.MaxPanes) && (setsPiece(n) || setsGlass(n))
		rest.Pane, rest.Piece, rest.Colour, rest.Setting = 0, 0, 0, api.Setting{}
	case api.NoteTake:
		valid, rest.Pane = within(n.Pane, 1, api.MaxPanes), 0
	case api.NoteBreak:
		valid = within(n.Piece, 1, api.MaxID) && within(len(n.Data), 1, api.MaxParts) && validData(n.Data)
		rest.Piece, rest.Data = 0, nil
	}
	return valid && blank(rest)
}

// validData reports whether pieces are valid and rise.
func validData(l []api.Piece) bool {
	var ids []int
	for _, p := range l {
		if !glass.ValidPiece(p) {
			return false
		}
		ids = append(ids, p.ID)
	}
	return rising(ids, api.MaxID)
}

// validRecord reports whether a note can record an item.
func validRecord(x api.Item) bool {
	return within(x.ID, 1, api.MaxID) && within(x.Kind, api.ItemPhoto, api.ItemFace) &&
		len(x.Sights) <= api.MaxSights && len(x.Panes) <= api.MaxPanes && len(x.Colours) <= api.MaxColour
}

// setsPiece and setsGlass report whether a note says properly what is set into a pane.
func setsPiece(n api.Note) bool {
	return within(n.Piece, 1, api.MaxID) && n.Colour == 0 && within(n.Setting.Shift, 0, api.MaxCorners-1)
}

func setsGlass(n api.Note) bool {
	return n.Piece == 0 && within(n.Colour, 1, api.MaxColour) && n.Setting == api.Setting{}
}

// blank reports whether a note has no content.
func blank(n api.Note) bool {
	return n.Piece == 0 && n.Pane == 0 && n.Colour == 0 && n.To == 0 && n.Setting == api.Setting{} && n.Ref == api.Ref{} &&
		len(n.Pieces) == 0 && len(n.Panes) == 0 && len(n.Data) == 0 && blankItem(n.Item)
}

func blankItem(x api.Item) bool {
	return x.ID == 0 && x.Kind == 0 && x.Year == 0 && x.Film == 0 && x.Piece == 0 && x.Lead == 0 && x.Slack == 0 &&
		len(x.Panes) == 0 && len(x.Colours) == 0 && x.Count == api.Span{} && len(x.Sights) == 0
}

// ownIDs reports whether a note gives no IDs but those that its bench may give.
func ownIDs(n api.Note) bool {
	foreign := func(id int) bool { return (id-n.Bench)%api.MaxBenches != 0 }
	foreignPiece := func(p api.Piece) bool { return foreign(p.ID) }
	return !slices.ContainsFunc(n.Data, foreignPiece) && (n.Item.ID == 0 || !foreign(n.Item.ID))
}

// refOf returns the name of a note.
func refOf(n api.Note) api.Ref { return api.Ref{Bench: n.Bench, Num: n.Num} }

func validRef(r api.Ref) bool {
	return within(r.Bench, 1, api.MaxBenches) && within(r.Num, 1, api.MaxNotes)
}

// within reports whether n is from lo to hi.
func within(n, lo, hi int) bool { return lo <= n && n <= hi }

// rising reports whether numbers strictly rise, from 1 on, up to the greatest one at most.
func rising(l []int, greatest int) bool {
	before := 0
	for _, n := range l {
		if !within(n, before+1, greatest) {
			return false
		}
		before = n
	}
	return true
}

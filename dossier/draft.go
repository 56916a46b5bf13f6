package dossier

import (
	"cmp"
	"slices"

	"leadlight/api"
	"leadlight/glass"
)

// draftActions are the commands of the table Drafts.
func draftActions() map[string]action {
	return map[string]action{
		"piece": late(atLeast(12, 2), (*console).draftPiece),
		"mark":  late(exactly(4), (*console).addMark),
		"fix":   late(exactly(2), (*console).setFix),
	}
}

func (s *state) draftPiece(a []int) (string, api.Errno) {
	var outline []api.Point
	for xy := range slices.Chunk(a[6:], 2) {
		outline = append(outline, api.Point{X: xy[0], Y: xy[1]})
	}
	g, e := glass.Gauges(outline)
	if e != api.OK {
		return "", e
	}
	if g, e = glass.Widen(g, a[5]); e != api.OK {
		return "", e
	}
	return s.keep(api.Piece{ID: a[0], Colour: a[1], Reverse: a[2], Made: a[3], Swell: a[4], Gauges: g})
}

// keep makes a piece the draft with its ID.
func (s *state) keep(p api.Piece) (string, api.Errno) {
	if !glass.ValidPiece(p) {
		return "", api.ErrPiece
	}
	s.drafts[p.ID] = p
	return "", api.OK
}

func (s *state) addMark(a []int) (string, api.Errno) {
	p, known := s.drafts[a[0]]
	if !known {
		return "", api.ErrNone
	}
	p.Marks = append(slices.Clone(p.Marks), api.Mark{Edge: a[1], At: a[2], Tone: a[3]})
	slices.SortFunc(p.Marks, func(m, n api.Mark) int {
		return cmp.Or(cmp.Compare(m.Edge, n.Edge), cmp.Compare(m.At, n.At), cmp.Compare(m.Tone, n.Tone))
	})
	return s.keep(p)
}

func (s *state) setFix(a []int) (string, api.Errno) {
	s.fix = &api.Ref{Bench: a[0], Num: a[1]}
	return "", api.OK
}

// takeFix returns the note that a note of a kind corrects, or nil. A note that cannot be a correction leaves the fix to the next one.
func (s *state) takeFix(kind int) *api.Ref {
	if kind == api.NoteGot || kind == api.NoteWithdraw {
		return nil
	}
	fix := s.fix
	s.fix = nil
	return fix
}

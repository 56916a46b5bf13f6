package dossier

import (
	"slices"

	"leadlight/api"
)

// noteActions are the commands of the table Notes.
func noteActions() map[string]action {
	return map[string]action{
		"find":      note(api.NoteFind, exactly(3), findNote),
		"photo":     note(api.NoteRecord, atLeast(8, 3), photoNote),
		"rubbing":   note(api.NoteRecord, atLeast(10, 6), rubbingNote),
		"inventory": note(api.NoteRecord, splits, inventoryNote),
		"kept":      note(api.NoteRecord, atLeast(5, 1), keptNote),
		"paint":     note(api.NoteRecord, exactly(6), paintNote),
		"survivors": note(api.NoteRecord, atLeast(6, 1), survivorsNote),
		"face":      note(api.NoteRecord, atLeast(4, 1), faceNote),
		"relead":    note(api.NoteRelead, atLeast(2, 1), releadNote),
		"send":      note(api.NoteSend, atLeast(3, 1), sendNote),
		"got":       note(api.NoteGot, exactly(4), refNote),
		"set":       note(api.NoteSet, exactly(6), setNote),
		"glass":     note(api.NoteSet, exactly(4), glassNote),
		"take":      note(api.NoteTake, exactly(3), takeNote),
		"break":     note(api.NoteBreak, atLeast(3, 1), breakNote),
		"withdraw":  note(api.NoteWithdraw, exactly(4), refNote),
	}
}

// content makes the content of a note of the numbers of its command.
type content func(s *state, a []int) (api.Note, api.Errno)

// note returns the action of a command that lets a bench write a note of a kind.
func note(kind int, allows counts, contentOf content) action {
	return late(allows, func(c *console, a []int) (string, api.Errno) {
		// The fix is used up by this command even if it fails.
		fix := c.takeFix(kind)
		n, e := contentOf(&c.state, a)
		if e != api.OK {
			return "", e
		}
		n.Kind, n.Year = kind, a[1]
		if fix != nil {
			n.Kind, n.Fix, n.Ref = api.NoteCorrect, kind, *fix
		}
		return c.write(a[0], n)
	})
}

// write lets a bench write a note.
func (s *state) write(bench int, n api.Note) (string, api.Errno) {
	if e := s.world.Step(api.Event{Kind: api.EventDo, Bench: bench, Note: n}); e != api.OK {
		return "", e
	}
	known, _ := s.world.Notes(bench)
	last := 0
	for _, n := range known {
		if n.Bench == bench {
			last = n.Num
		}
	}
	return phrase("ok", last), api.OK
}

// draftsOf returns the drafts with IDs.
func (s *state) draftsOf(ids []int) ([]api.Piece, api.Errno) {
	var out []api.Piece
	for _, id := range ids {
		p, known := s.drafts[id]
		if !known {
			return nil, api.ErrNone
		}
		out = append(out, p)
	}
	return out, api.OK
}

func findNote(s *state, a []int) (api.Note, api.Errno) {
	l, e := s.draftsOf(a[2:])
	return api.Note{Data: l}, e
}

func breakNote(s *state, a []int) (api.Note, api.Errno) {
	l, e := s.draftsOf(a[3:])
	return api.Note{Piece: a[2], Data: l}, e
}

// recorded returns the note of an item, whose ID and Year are the third and the fourth number.
func recorded(a []int, x api.Item) (api.Note, api.Errno) {
	x.ID, x.Year = a[2], a[3]
	return api.Note{Item: x}, api.OK
}

func photoNote(_ *state, a []int) (api.Note, api.Errno) {
	x := api.Item{Kind: api.ItemPhoto, Film: a[4]}
	for l := range slices.Chunk(a[5:], 3) {
		x.Sights = append(x.Sights, api.Sight{Pane: l[0], Grey: api.Span{Lo: l[1], Hi: l[2]}})
	}
	return recorded(a, x)
}

func rubbingNote(_ *state, a []int) (api.Note, api.Errno) {
	x := api.Item{Kind: api.ItemRubbing}
	for l := range slices.Chunk(a[4:], 6) {
		s := api.Sight{Pane: l[0], Edge: l[1], At: api.Span{Lo: l[2], Hi: l[3]}, Count: api.Span{Lo: l[4], Hi: l[5]}}
		x.Sights = append(x.Sights, s)
	}
	return recorded(a, x)
}

// splits allows the numbers of an inventory: as many panes as it says are there.
func splits(a []int) bool { return len(a) >= 7 && within(a[6], 0, len(a)-7) }

func inventoryNote(_ *state, a []int) (api.Note, api.Errno) {
	colours := 7 + a[6]
	return recorded(a, api.Item{Kind: api.ItemInventory, Count: api.Span{Lo: a[4], Hi: a[5]}, Panes: a[7:colours], Colours: a[colours:]})
}

func keptNote(_ *state, a []int) (api.Note, api.Errno) {
	return recorded(a, api.Item{Kind: api.ItemKept, Piece: a[4], Panes: a[5:]})
}

func paintNote(_ *state, a []int) (api.Note, api.Errno) {
	return recorded(a, api.Item{Kind: api.ItemPaint, Lead: a[4], Slack: a[5]})
}

func survivorsNote(_ *state, a []int) (api.Note, api.Errno) {
	return recorded(a, api.Item{Kind: api.ItemSurvivors, Count: api.Span{Lo: a[4], Hi: a[5]}, Panes: a[6:]})
}

func faceNote(_ *state, a []int) (api.Note, api.Errno) {
	return recorded(a, api.Item{Kind: api.ItemFace, Panes: a[4:]})
}

func releadNote(_ *state, a []int) (api.Note, api.Errno) {
	return api.Note{Panes: a[2:]}, api.OK
}

func sendNote(_ *state, a []int) (api.Note, api.Errno) {
	return api.Note{To: a[2], Pieces: a[3:]}, api.OK
}

func refNote(_ *state, a []int) (api.Note, api.Errno) {
	return api.Note{Ref: api.Ref{Bench: a[2], Num: a[3]}}, api.OK
}

func setNote(_ *state, a []int) (api.Note, api.Errno) {
	if !within(a[5], 0, 1) {
		return api.Note{}, api.ErrArg
	}
	return api.Note{Pane: a[2], Piece: a[3], Setting: api.Setting{Shift: a[4], Back: a[5] == 1}}, api.OK
}

func glassNote(_ *state, a []int) (api.Note, api.Errno) {
	return api.Note{Pane: a[2], Colour: a[3]}, api.OK
}

func takeNote(_ *state, a []int) (api.Note, api.Errno) {
	return api.Note{Pane: a[2]}, api.OK
}

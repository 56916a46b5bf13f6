package benches

import (
	"maps"
	"slices"

	"leadlight/api"
)

// home is the bench at which the panel is.
const home = 1

// ledger is what notes amount to while they take effect, one after the other.
type ledger struct {
	pieces    map[int]api.Piece // those that are registered
	where     map[int]api.Where // of each registered piece
	panes     map[int]api.Held  // what is in a pane
	items     map[int]api.Item
	releads   []api.Relead
	trays     map[api.Ref]tray // those that were not unpacked
	conflicts []api.Ref
}

// tray is the pieces of a tray, and the bench to which it goes.
type tray struct {
	to     int
	pieces []int
}

func newLedger() *ledger {
	return &ledger{pieces: map[int]api.Piece{}, where: map[int]api.Where{}, panes: map[int]api.Held{}, items: map[int]api.Item{}, trays: map[api.Ref]tray{}}
}

// take lets notes take effect. One that does not meet its condition changes nothing, and is a conflict.
func (l *ledger) take(notes []api.Note) {
	for _, n := range notes {
		if effect := l.effect(n.Kind); !effect(n) {
			l.conflicts = append(l.conflicts, refOf(n))
		}
	}
}

// effect returns what lets a note of a kind take effect, and reports whether the note meets its condition.
func (l *ledger) effect(kind int) func(api.Note) bool {
	switch kind {
	case api.NoteFind:
		return l.find
	case api.NoteRecord:
		return l.record
	case api.NoteRelead:
		return l.relead
	case api.NoteSend:
		return l.send
	case api.NoteGot:
		return l.unpack
	case api.NoteSet:
		return l.set
	case api.NoteTake:
		return l.takeOut
	}
	return l.breakUp
}

func (l *ledger) find(n api.Note) bool { return l.enter(n.Data, n.Bench) }

// enter registers pieces at a bench, if none of them is registered.
func (l *ledger) enter(pieces []api.Piece, bench int) bool {
	for _, p := range pieces {
		if _, is := l.pieces[p.ID]; is {
			return false
		}
	}
	for _, p := range pieces {
		l.pieces[p.ID] = p
		l.lay(p.ID, bench)
	}
	return true
}

// lay lays a piece at a bench.
func (l *ledger) lay(piece, bench int) { l.where[piece] = atBench(piece, bench) }

func atBench(piece, bench int) api.Where {
	return api.Where{Piece: piece, Kind: api.AtBench, At: bench}
}

// lies reports whether a piece is at a bench.
func (l *ledger) lies(piece, bench int) bool { return l.where[piece] == atBench(piece, bench) }

func (l *ledger) record(n api.Note) bool {
	if _, is := l.items[n.Item.ID]; is {
		return false
	}
	l.items[n.Item.ID] = n.Item
	return true
}

func (l *ledger) relead(n api.Note) bool {
	l.releads = append(l.releads, api.Relead{Year: n.Year, Panes: n.Panes})
	return true
}

func (l *ledger) send(n api.Note) bool {
	elsewhere := func(piece int) bool { return !l.lies(piece, n.Bench) }
	if n.To == n.Bench || slices.ContainsFunc(n.Pieces, elsewhere) {
		return false
	}
	for _, piece := range n.Pieces {
		l.where[piece] = api.Where{Piece: piece, Kind: api.InTray, Tray: refOf(n)}
	}
	l.trays[refOf(n)] = tray{n.To, n.Pieces}
	return true
}

func (l *ledger) unpack(n api.Note) bool {
	t, is := l.trays[n.Ref]
	if !is || t.to != n.Bench {
		return false
	}
	for _, piece := range t.pieces {
		l.lay(piece, n.Bench)
	}
	delete(l.trays, n.Ref)
	return true
}

func (l *ledger) set(n api.Note) bool {
	_, full := l.panes[n.Pane]
	if n.Bench != home || full || n.Piece > 0 && !l.lies(n.Piece, home) {
		return false
	}
	l.panes[n.Pane] = api.Held{Pane: n.Pane, Piece: n.Piece, Colour: n.Colour, Setting: n.Setting}
	if n.Piece > 0 {
		l.where[n.Piece] = api.Where{Piece: n.Piece, Kind: api.InPane, At: n.Pane, Setting: n.Setting}
	}
	return true
}

func (l *ledger) takeOut(n api.Note) bool {
	held, is := l.panes[n.Pane]
	if n.Bench != home || !is {
		return false
	}
	delete(l.panes, n.Pane)
	if held.Piece > 0 {
		l.lay(held.Piece, home)
	}
	return true
}

func (l *ledger) breakUp(n api.Note) bool {
	if !l.lies(n.Piece, n.Bench) || !l.enter(n.Data, n.Bench) {
		return false
	}
	l.where[n.Piece] = api.Where{Piece: n.Piece, Kind: api.Broken}
	return true
}

// register returns the register. It shares memory with the notes.
func (l *ledger) register() api.Register {
	r := api.Register{Releads: l.releads, Conflicts: l.conflicts}
	for _, id := range slices.Sorted(maps.Keys(l.pieces)) {
		r.Pieces = append(r.Pieces, l.pieces[id])
		r.Where = append(r.Where, l.where[id])
	}
	for _, pane := range slices.Sorted(maps.Keys(l.panes)) {
		if held := l.panes[pane]; held.Piece == 0 {
			r.New = append(r.New, held)
		}
	}
	for _, id := range slices.Sorted(maps.Keys(l.items)) {
		r.Items = append(r.Items, l.items[id])
	}
	return r
}

package benches

import (
	"slices"

	"leadlight/api"
)

// World is benches with links and trays between them. One that NewWorld did not make has no benches.
type World struct {
	benches []*Bench
	mails   []api.Mail
	trays   []load
}

// load is a tray with the notes that it carries.
type load struct {
	api.Tray
	notes []api.Note
}

// NewWorld returns a world of n benches.
func NewWorld(n int) (*World, api.Errno) {
	if !within(n, 1, api.MaxBenches) {
		return nil, api.ErrArg
	}
	w := &World{}
	for id := 1; id <= n; id++ {
		b, _ := NewBench(id)
		w.benches = append(w.benches, b)
	}
	return w, api.OK
}

func (w *World) made() bool { return w != nil && len(w.benches) > 0 }

// bench returns a bench, or nil.
func (w *World) bench(id int) *Bench {
	if !within(id, 1, len(w.benches)) {
		return nil
	}
	return w.benches[id-1]
}

// Step lets an event happen.
func (w *World) Step(e api.Event) api.Errno {
	if !w.made() {
		return api.ErrArg
	}
	switch e.Kind {
	case api.EventDo:
		return w.do(e)
	case api.EventSync:
		return w.sync(e)
	case api.EventAsk:
		return w.ask(e)
	case api.EventDeliver:
		return w.deliver(e)
	case api.EventLose:
		return w.lose(e)
	case api.EventDouble:
		return w.double(e)
	case api.EventArrive:
		return w.arrive(e)
	case api.EventCrash:
		return w.crash(e)
	}
	return api.ErrArg
}

// do lets a bench write a note.
func (w *World) do(e api.Event) api.Errno {
	b := w.bench(e.Bench)
	switch {
	case b == nil:
		return api.ErrArg
	case e.Note.Kind == api.NoteSend && len(w.trays) == api.MaxTrays:
		return api.ErrLimit
	case e.Note.Kind == api.NoteGot && !w.arrived(e.Note.Ref, e.Bench):
		return api.ErrPlace
	}
	n, err := b.Do(e.Note)
	if err != api.OK {
		return err
	}
	if moves(n) {
		b.Sync()
	}
	if n.Kind == api.NoteSend {
		w.trays = append(w.trays, load{api.Tray{Ref: refOf(n), To: n.To}, b.Notes()})
	}
	return api.OK
}

// moves reports whether a note says where glass is from then on. Such a note must not be lost, as the glass stays where it is.
func moves(n api.Note) bool {
	return slices.Contains([]int{api.NoteFind, api.NoteSend, api.NoteGot, api.NoteSet, api.NoteTake, api.NoteBreak}, n.Kind)
}

// arrived reports whether the tray of a note has arrived at a bench.
func (w *World) arrived(ref api.Ref, bench int) bool {
	is := func(l load) bool { return l.Tray == api.Tray{Ref: ref, To: bench, Arrived: true} }
	return slices.ContainsFunc(w.trays, is)
}

func (w *World) sync(e api.Event) api.Errno {
	b := w.bench(e.Bench)
	if b == nil {
		return api.ErrArg
	}
	b.Sync()
	return api.OK
}

func (w *World) crash(e api.Event) api.Errno {
	b := w.bench(e.Bench)
	if b == nil {
		return api.ErrArg
	}
	return b.Crash(e.Keep, e.Flip)
}

// arrive brings a tray, with the notes that it carries.
func (w *World) arrive(e api.Event) api.Errno {
	if !within(e.Index, 0, len(w.trays)-1) {
		return api.ErrNone
	}
	l := w.trays[e.Index]
	b := w.bench(l.To)
	switch {
	case b == nil:
		return api.ErrArg
	case l.Arrived:
		return api.ErrPlace
	}
	if _, err := b.Hear(l.notes); err != api.OK {
		return err
	}
	w.trays[e.Index].Arrived = true
	return api.OK
}

// Settle lets all benches exchange all notes.
func (w *World) Settle() api.Errno {
	if !w.made() {
		return api.ErrArg
	}
	var all []api.Note
	for _, b := range w.benches {
		var e api.Errno
		if all, e = Merge(all, b.Notes()); e != api.OK {
			return e
		}
	}
	for _, b := range w.benches {
		b.Sync()
		b.Hear(all)
		b.Sync()
	}
	return api.OK
}

// Notes returns the notes that a bench knows.
func (w *World) Notes(bench int) ([]api.Note, api.Errno) {
	if !w.made() {
		return nil, api.ErrArg
	}
	b := w.bench(bench)
	if b == nil {
		return nil, api.ErrNone
	}
	return b.Notes(), api.OK
}

// Mails returns the messages that are under way.
func (w *World) Mails() []api.Mail {
	if !w.made() {
		return nil
	}
	return each(w.mails, cloneMail)
}

// Trays returns all trays.
func (w *World) Trays() []api.Tray {
	if !w.made() {
		return nil
	}
	var out []api.Tray
	for _, l := range w.trays {
		out = append(out, l.Tray)
	}
	return out
}

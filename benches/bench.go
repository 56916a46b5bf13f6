package benches

import (
	"slices"

	"leadlight/api"
)

// Bench is a bench with its journal. One that NewBench did not make has no ID.
type Bench struct {
	id    int
	knows knowledge
	disk  Disk
}

// NewBench returns a bench without notes.
func NewBench(id int) (*Bench, api.Errno) {
	if !within(id, 1, api.MaxBenches) {
		return nil, api.ErrArg
	}
	return &Bench{id: id}, api.OK
}

func (b *Bench) made() bool { return b != nil && b.id > 0 }

// Do adds a note of the bench.
func (b *Bench) Do(n api.Note) (api.Note, api.Errno) {
	if !b.made() {
		return api.Note{}, api.ErrArg
	}
	n.Bench, n.Num, n.Clock = b.id, len(b.knows[b.id-1])+1, b.knows.clock()+1
	if b.knows.count() == api.MaxNotes || n.Clock > api.MaxClock {
		return api.Note{}, api.ErrLimit
	}
	if e := CheckNote(n); e != api.OK {
		return api.Note{}, e
	}
	with := append(b.knows.set(), n) // the order does not matter to fold
	if slices.Contains(fold(with, api.MaxYear).Conflicts, refOf(n)) {
		return api.Note{}, api.ErrPlace
	}
	b.Hear([]api.Note{n})
	return cloneNote(n), api.OK
}

// Sync makes all notes of the bench durable.
func (b *Bench) Sync() {
	if b.made() {
		b.disk.Sync()
	}
}

// Notes returns the notes that the bench knows.
func (b *Bench) Notes() []api.Note {
	if !b.made() {
		return nil
	}
	return cloneNotes(b.knows.set())
}

// Counts returns how many notes of each bench it knows.
func (b *Bench) Counts() []int {
	if !b.made() {
		return nil
	}
	var out []int
	for _, l := range b.knows {
		out = append(out, len(l))
	}
	return out
}

// Missing returns the notes that somebody with these counts lacks.
func (b *Bench) Missing(counts []int) []api.Note {
	lacks := func(n api.Note) bool { return n.Bench > len(counts) || n.Num > counts[n.Bench-1] }
	return only(b.Notes(), lacks)
}

// Hear adds notes of any benches.
func (b *Bench) Hear(l []api.Note) (int, api.Errno) {
	if !b.made() {
		return 0, api.ErrArg
	}
	for _, n := range l {
		if e := CheckNote(n); e != api.OK {
			return 0, e
		}
	}
	after := b.knows // so that nothing changes with an error
	var added []api.Note
	for _, n := range l {
		is, e := after.hear(n)
		if e != api.OK {
			return 0, e
		}
		if is {
			added = append(added, n)
		}
	}
	b.knows = after
	for _, n := range added {
		// The disk has room for the frames of MaxNotes notes, and has no others.
		b.disk.Write(frame(encoding(n)))
	}
	return len(added), api.OK
}

// Crash loses power and reads the journal again.
func (b *Bench) Crash(keep, flip int) api.Errno {
	if !b.made() {
		return api.ErrArg
	}
	if e := b.disk.Crash(keep, flip); e != api.OK {
		return e
	}
	again := Bench{id: b.id}
	records, _ := Scan(b.disk.Read())
	for _, record := range records {
		n, e := Decode(record)
		if e != api.OK {
			break
		}
		if added, e := again.Hear([]api.Note{n}); e != api.OK || added == 0 {
			break
		}
	}
	again.Sync()
	*b = again
	return api.OK
}

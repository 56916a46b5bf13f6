package benches

import (
	"slices"

	"leadlight/api"
)

// knowledge is the notes that are known: of each bench those with the numbers 1, 2, .., up to some number.
type knowledge [api.MaxBenches][]api.Note

// set returns all notes. They share memory with the knowledge.
func (k *knowledge) set() []api.Note { return slices.Concat(k[:]...) }

// count returns how many notes are known.
func (k *knowledge) count() int {
	n := 0
	for _, l := range k {
		n += len(l)
	}
	return n
}

// clock returns the greatest clock, or 0.
func (k *knowledge) clock() int {
	greatest := 0
	for _, l := range k {
		for _, n := range l {
			greatest = max(greatest, n.Clock)
		}
	}
	return greatest
}

// hear adds a well-formed note, unless it is known or leaves a gap, and reports whether it did.
func (k *knowledge) hear(n api.Note) (bool, api.Errno) {
	l := k[n.Bench-1]
	switch {
	case n.Num <= len(l) && !same(n, l[n.Num-1]):
		return false, api.ErrFork
	case n.Num != len(l)+1:
		return false, api.OK
	case k.count() == api.MaxNotes:
		return false, api.ErrLimit
	}
	k[n.Bench-1] = append(l, cloneNote(n))
	return true, api.OK
}

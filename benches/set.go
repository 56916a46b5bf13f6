package benches

import (
	"bytes"
	"cmp"
	"slices"

	"leadlight/api"
)

// CheckSet returns OK if notes are a set, and else the index of the first one that is wrong.
func CheckSet(l []api.Note) (api.Errno, int) {
	if len(l) > api.MaxNotes {
		return api.ErrLimit, 0
	}
	before := api.Ref{}
	for i, n := range l {
		order := compareRefs(refOf(n), before)
		switch {
		case CheckNote(n) != api.OK:
			return api.ErrNote, i
		case order == 0:
			return api.ErrFork, i
		case order < 0:
			return api.ErrArg, i
		}
		before = refOf(n)
	}
	return api.OK, 0
}

func isSet(l []api.Note) bool {
	e, _ := CheckSet(l)
	return e == api.OK
}

func compareRefs(a, b api.Ref) int {
	return cmp.Or(cmp.Compare(a.Bench, b.Bench), cmp.Compare(a.Num, b.Num))
}

// same reports whether two well-formed notes are equal in all fields.
func same(a, b api.Note) bool { return bytes.Equal(encoding(a), encoding(b)) }

// Merge returns the union of two sets of notes.
func Merge(a, b []api.Note) ([]api.Note, api.Errno) {
	if !isSet(a) || !isSet(b) {
		return nil, api.ErrArg
	}
	union := map[api.Ref]api.Note{}
	for _, n := range a {
		union[refOf(n)] = n
	}
	for _, n := range b {
		if other, is := union[refOf(n)]; is && !same(n, other) {
			return nil, api.ErrFork
		}
		union[refOf(n)] = n
	}
	if len(union) > api.MaxNotes {
		return nil, api.ErrLimit
	}
	return cloneNotes(byRef(union)), api.OK
}

// byRef returns the notes of a map as a set.
func byRef(notes map[api.Ref]api.Note) []api.Note {
	var out []api.Note
	for _, n := range notes {
		out = append(out, n)
	}
	slices.SortFunc(out, func(a, b api.Note) int { return compareRefs(refOf(a), refOf(b)) })
	return out
}

// Before reports whether a takes effect before b.
func Before(a, b api.Note) bool { return compareEffects(a, b) < 0 }

func compareEffects(a, b api.Note) int {
	return cmp.Or(cmp.Compare(a.Year, b.Year), compareClocks(a, b))
}

func compareClocks(a, b api.Note) int {
	return cmp.Or(cmp.Compare(a.Clock, b.Clock), compareRefs(refOf(a), refOf(b)))
}

// Effective returns the notes that count, as they are corrected, in the order in which they take effect.
func Effective(l []api.Note) ([]api.Note, api.Errno) {
	if !isSet(l) {
		return nil, api.ErrArg
	}
	return cloneNotes(effective(l)), api.OK
}

// effective is Effective of a set. What it returns shares memory with the set.
func effective(l []api.Note) []api.Note {
	last := lastJudges(l)
	var out []api.Note
	for _, n := range l {
		if judges(n) {
			continue
		}
		judge, is := last[refOf(n)]
		switch {
		case !is:
			out = append(out, n)
		case judge.Kind == api.NoteCorrect:
			out = append(out, corrected(n, judge))
		}
	}
	slices.SortFunc(out, compareEffects)
	return out
}

// lastJudges returns the judge of each note that has one.
func lastJudges(l []api.Note) map[api.Ref]api.Note {
	last := map[api.Ref]api.Note{}
	for _, n := range l {
		if !judges(n) {
			continue
		}
		if before, is := last[n.Ref]; !is || compareClocks(before, n) < 0 {
			last[n.Ref] = n
		}
	}
	return last
}

// corrected returns what counts of a note by its correction.
func corrected(n, by api.Note) api.Note {
	by.Bench, by.Num, by.Clock = n.Bench, n.Num, n.Clock
	by.Kind, by.Fix, by.Ref = by.Fix, 0, api.Ref{}
	return by
}

// astray returns the corrections and withdrawals of notes that are not there, or that cannot be corrected.
func astray(l []api.Note) []api.Ref {
	first := map[api.Ref]bool{}
	for _, n := range l {
		first[refOf(n)] = !judges(n)
	}
	var out []api.Ref
	for _, n := range l {
		if judges(n) && !first[n.Ref] {
			out = append(out, refOf(n))
		}
	}
	return out
}

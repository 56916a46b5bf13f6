package glass

import (
	"cmp"
	"slices"

	"leadlight/api"
)

// On returns the marks of one edge.
func On(l []api.Mark, edge int) ([]api.Mark, api.Errno) {
	if !validMarks(l, api.Span{Hi: api.MaxCorners - 1}) || !within(edge, 0, api.MaxCorners-1) {
		return nil, api.ErrArg
	}
	var out []api.Mark
	for _, m := range l {
		if m.Edge == edge {
			out = append(out, m)
		}
	}
	return out, api.OK
}

// Count returns how many marks of an edge lie in a span.
func Count(l []api.Mark, edge int, at api.Span) (int, api.Errno) {
	on, e := On(l, edge)
	n := 0
	for _, m := range on {
		if contains(at, m.At) {
			n++
		}
	}
	return n, e
}

// RunOn returns the pairing by which marks run on across a lead.
func RunOn(a, b []api.Mark, slack int) ([]int, api.Errno) {
	if !onOneEdge(a) || !onOneEdge(b) || !within(slack, 0, api.Parts) {
		return nil, api.ErrArg
	}
	out, ok := pairing(a, b, slack)
	if !ok {
		return nil, api.ErrMarks
	}
	return out, api.OK
}

// validMarks reports whether marks on these edges can be those of a piece.
func validMarks(l []api.Mark, edges api.Span) bool {
	if len(l) > api.MaxMarks {
		return false
	}
	for _, m := range l {
		if !contains(edges, m.Edge) || !within(m.At, 0, api.Parts) || !within(m.Tone, 1, api.MaxTone) {
			return false
		}
	}
	return rising(l, compareMarks)
}

// onOneEdge reports whether marks are marks on one edge, which may have any number.
func onOneEdge(l []api.Mark) bool {
	return len(l) == 0 || validMarks(l, one(l[0].Edge))
}

// compareMarks orders marks by Edge, then At, then Tone.
func compareMarks(m, o api.Mark) int {
	return cmp.Or(cmp.Compare(m.Edge, o.Edge), cmp.Compare(m.At, o.At), cmp.Compare(m.Tone, o.Tone))
}

// pairing returns the first list that pairs each mark of a with one of b into which it runs on, if there is one.
func pairing(a, b []api.Mark, slack int) ([]int, bool) {
	runOn := func(i, k int) bool {
		return a[i].Tone == b[k].Tone && within(a[i].At+b[k].At-api.Parts, -slack, slack)
	}
	out := make([]int, len(a))
	var paired [api.MaxMarks]bool
	rise, fall := byTone(a, 1), byTone(b, -1)
	// open reports whether the marks of a from i on can be paired with those of b that are left. Of one tone, the slack that two pairs need does not grow when they are uncrossed, so it is enough to pair in order.
	open := func(i int) bool {
		left := slices.DeleteFunc(slices.Clone(rise), func(k int) bool { return k < i })
		right := slices.DeleteFunc(slices.Clone(fall), func(k int) bool { return paired[k] })
		return slices.EqualFunc(left, right, runOn)
	}
	// search pairs the marks of a from i on. As it looks ahead, it takes back a mark of b at once or not at all.
	var search func(i int) bool
	search = func(i int) bool {
		if !open(i) {
			return false
		}
		if i == len(a) {
			return true
		}
		for k := range b {
			if paired[k] || !runOn(i, k) {
				continue
			}
			out[i], paired[k] = k, true
			if search(i + 1) {
				return true
			}
			paired[k] = false
		}
		return false
	}
	found := search(0)
	return out, found
}

// byTone returns the indices of marks by Tone, and then by At, in the way 1 upwards and in the way -1 downwards.
func byTone(l []api.Mark, way int) []int {
	indices := make([]int, len(l))
	for k := range l {
		indices[k] = k
	}
	return sorted(indices, func(i, k int) int {
		return cmp.Or(cmp.Compare(l[i].Tone, l[k].Tone), way*cmp.Compare(l[i].At, l[k].At))
	})
}

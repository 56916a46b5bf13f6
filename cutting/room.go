package cutting

import (
	"cmp"
	"iter"
	"math/bits"
	"slices"

	"leadlight/api"
)

// Sizes returns the smallest sizes of rectangles from which all boxes can be had.
func Sizes(l []api.Want, grain int) ([]api.Size, api.Errno) {
	if e := argError(l, nil, validGrain(grain)); e != api.OK {
		return nil, e
	}
	return roomsOf(l, grain).sizes(all(l)), api.OK
}

// FitsIn reports whether all boxes can be had from a sheet.
func FitsIn(l []api.Want, s api.Sheet) (bool, api.Errno) {
	if e := argError(l, []api.Sheet{s}, true); e != api.OK {
		return false, e
	}
	return roomsOf(l, s.Grain).fit(all(l), whole(s)), api.OK
}

// group is some wants of a list: its bit k says whether the want k is one of them.
type group int

// all returns the group of all wants of a list.
func all(l []api.Want) group { return 1<<len(l) - 1 }

func (g group) has(k int) bool { return g>>k&1 == 1 }

// only returns the index of the want of a group that has just one.
func (g group) only() (int, bool) {
	return bits.TrailingZeros(uint(g)), g != 0 && g&(g-1) == 0
}

// parts yields the groups within a group, the empty one and itself included, by increasing numbers.
func (g group) parts() iter.Seq[group] {
	return func(yield func(group) bool) {
		part := group(0)
		for yield(part) {
			// Subtracting g carries over the bits that g does not have.
			part = (part - g) & g
			if part == 0 {
				return
			}
		}
	}
}

// halves yields the groups within a group that have its first want, but not all, by increasing numbers; each with the others.
func (g group) halves() iter.Seq2[group, group] {
	return func(yield func(some, others group) bool) {
		first := g & -g
		for part := range (g - first).parts() {
			some := first | part
			if some == g || !yield(some, g-some) {
				return
			}
		}
	}
}

// rooms finds the least sizes of rectangles that have room for groups of wants, with the grain of a sheet, and keeps them.
type rooms struct {
	wants []api.Want
	grain int
	least map[group][]api.Size
}

func roomsOf(l []api.Want, grain int) rooms {
	return rooms{l, grain, map[group][]api.Size{}}
}

// sizes returns the least sizes with room for a group: the widths increase, and the heights decrease.
func (r rooms) sizes(g group) []api.Size {
	if known, ok := r.least[g]; ok {
		return known
	}
	var found []api.Size
	k, single := g.only()
	switch {
	case g == 0:
		found = []api.Size{{}}
	case single:
		found = r.boxes(k)
	default:
		for some, others := range g.halves() {
			a, b := r.sizes(some), r.sizes(others)
			found = slices.Concat(found, beside(a, b), above(a, b))
		}
	}
	found = leastOf(found)
	r.least[g] = found
	return found
}

// boxes returns the box of the want k in each allowed turn.
func (r rooms) boxes(k int) []api.Size {
	var out []api.Size
	for turn := range 2 {
		if w := r.wants[k]; allowed(w, r.grain, turn) {
			out = append(out, boxOf(w, turn))
		}
	}
	return out
}

// fit reports whether a rectangle has room for a group.
func (r rooms) fit(g group, in rectangle) bool {
	return slices.ContainsFunc(r.sizes(g), in.holds)
}

// beside returns the least sizes of rectangles that are divided into two of given least sizes, side by side.
func beside(a, b []api.Size) []api.Size {
	var out []api.Size
	for len(a) > 0 && len(b) > 0 {
		s, t := a[0], b[0]
		out = append(out, api.Size{W: s.W + t.W, H: max(s.H, t.H)})
		// What is as high as both together is exchanged for its next size, which is wider and lower; of the other one this would not make both lower.
		if s.H >= t.H {
			a = a[1:]
		}
		if t.H >= s.H {
			b = b[1:]
		}
	}
	return out
}

// above returns the least sizes of rectangles that are divided into two of given least sizes, one above the other.
func above(a, b []api.Size) []api.Size {
	return exchanged(beside(exchanged(a), exchanged(b)))
}

// exchanged returns least sizes with the width and the height exchanged, by increasing width again.
func exchanged(l []api.Size) []api.Size {
	var out []api.Size
	for _, s := range slices.Backward(l) {
		out = append(out, api.Size{W: s.H, H: s.W})
	}
	return out
}

// leastOf returns the sizes of a list that no other one is within, by increasing width.
func leastOf(l []api.Size) []api.Size {
	slices.SortFunc(l, func(s, t api.Size) int { return cmp.Or(cmp.Compare(s.W, t.W), cmp.Compare(s.H, t.H)) })
	var out []api.Size
	for _, s := range l {
		if len(out) == 0 || s.H < out[len(out)-1].H {
			out = append(out, s)
		}
	}
	return out
}

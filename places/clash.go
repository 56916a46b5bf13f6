package places

import (
	"math/bits"
	"slices"

	"leadlight/api"
)

// Clash returns a least set of items that clashes.
func Clash(p api.Problem) ([]int, api.Errno) {
	if e := argError(p, true); e != api.OK {
		return nil, e
	}
	return newSearch(p).leastClash()
}

// Reason returns a least set of items that excludes an option.
func Reason(p api.Problem, pane, option int) ([]int, api.Errno) {
	if e := argError(p, hasOption(p, pane, option)); e != api.OK {
		return nil, e
	}
	s := newSearch(p)
	s.require(choice{pane, option})
	return s.leastClash()
}

// leastClash returns the least set of items of which each sound filling that is sought violates one, or ErrNone if there is no such set.
func (s *search) leastClash() ([]int, api.Errno) {
	items := slices.Compact(itemOfEach(s.Problem))
	met := s.metBy(items)
	whole := group(len(met) - 1)
	clashes := func(g group) bool { return !met[whole&^g] }
	for size := range len(items) + 1 {
		for g := whole; g >= 0; g-- {
			if g.size() == size && clashes(g) {
				return g.of(items), api.OK
			}
		}
	}
	return nil, api.ErrNone
}

// metBy tells for each group of items whether a sound filling that is sought violates no other items.
func (s *search) metBy(items []int) []bool {
	met := make([]bool, 1<<len(items))
	for range s.fillings(s.doubled) {
		met[s.violated(items)] = true
	}
	// What violates no other items than those of a group violates no others than those of a greater one.
	for k := range items {
		item := one(k, items)
		for g := range group(len(met)) {
			met[g] = met[g] || g&item != 0 && met[g&^item]
		}
	}
	return met
}

// group is some items of a list. The first item has the highest bit, so that of two groups of one size the one with the greater number is the lesser list.
type group int

// one returns the group of the item k alone.
func one(k int, items []int) group { return 1 << (len(items) - 1 - k) }

func (g group) size() int { return bits.OnesCount(uint(g)) }

// of returns the items of a group.
func (g group) of(items []int) []int {
	var out []int
	for k, item := range items {
		if g&one(k, items) != 0 {
			out = append(out, item)
		}
	}
	return out
}

// violated returns the group of the items that a filling violates of which all options are chosen.
func (s *search) violated(items []int) group {
	g := group(0)
	for i, r := range s.Rules {
		if s.broken(i) {
			g |= one(slices.Index(items, r.Item), items)
		}
	}
	return g
}

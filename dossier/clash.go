package dossier

import (
	"iter"
	"math/bits"
	"slices"

	"leadlight/api"
	"leadlight/places"
)

// group is a set of items: the bit k stands for the item with the index k of a list.
type group uint

// groups yields the groups of so many of n items.
func groups(n, size int) iter.Seq[group] {
	return func(yield func(group) bool) {
		for g := range group(1) << n {
			if bits.OnesCount(uint(g)) == size && !yield(g) {
				return
			}
		}
	}
}

// of returns the items of a group.
func (g group) of(items []int) []int {
	var out []int
	for k, item := range items {
		if g>>k&1 == 1 {
			out = append(out, item)
		}
	}
	return out
}

// leavesOut reports whether a group has none of the items that one of several fillings violates.
func (g group) leavesOut(violated []group) bool {
	return slices.ContainsFunc(violated, func(v group) bool { return v&g == 0 })
}

// itemsOf returns the items of the rules of a problem.
func itemsOf(p api.Problem) []int {
	var out []int
	for _, r := range p.Rules {
		out = append(out, r.Item)
	}
	return slices.Compact(out)
}

// violatedBy returns the items that a filling violates.
func violatedBy(p api.Problem, items, f []int) group {
	l, _ := places.Violates(p, f)
	var g group
	for _, item := range l {
		g |= 1 << slices.Index(items, item)
	}
	return g
}

// hits returns sound fillings of which each set of fewer items than a least clash has leaves one out. It is enough to look at the greatest of these sets, as what they leave out their parts leave out, too.
func hits(p api.Problem, clash int) [][]int {
	items := itemsOf(p)
	var out [][]int
	var violated []group
	for g := range groups(len(items), clash-1) {
		if g.leavesOut(violated) {
			continue
		}
		some, _ := places.Only(p, g.of(items))
		f, _ := places.First(some)
		out = append(out, f)
		violated = append(violated, violatedBy(p, items, f))
	}
	return out
}

// provesLeast reports whether fillings are sound, and each set of fewer items than a clash has leaves one of them out.
func provesLeast(p api.Problem, fillings [][]int, clash int) bool {
	items := itemsOf(p)
	var violated []group
	for _, f := range fillings {
		if sound, _ := places.Sound(p, f); !sound {
			return false
		}
		violated = append(violated, violatedBy(p, items, f))
	}
	slices.Sort(violated)
	violated = slices.Compact(violated)
	for g := range groups(len(items), clash-1) {
		if !g.leavesOut(violated) {
			return false
		}
	}
	return true
}

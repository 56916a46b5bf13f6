package cutting

import (
	"cmp"
	"maps"
	"slices"

	"leadlight/api"
)

// Assign returns for each wanted piece its sheet, and the area of the sheets that are used.
func Assign(l []api.Want, s []api.Sheet) (sheets []int, area int, err api.Errno) {
	if e := argError(l, s, true); e != api.OK {
		return nil, 0, e
	}
	best, ok := newTask(l, s).assign()
	if !ok {
		return nil, 0, api.ErrRoom
	}
	return slices.Clone(best.sheets[:len(l)]), best.area, api.OK
}

// Least reports whether the wanted pieces cannot be had from sheets of less area.
func Least(l []api.Want, s []api.Sheet, area int) (bool, api.Errno) {
	if e := argError(l, s, true); e != api.OK {
		return false, e
	}
	best, ok := newTask(l, s).assign()
	return !ok || best.area >= area, api.OK
}

// assignment is the area of the sheets to which some wants are assigned, and the ID of the sheet of each of these wants.
type assignment struct {
	area   int
	sheets [api.MaxWants]int
}

// task is wants that are to be cut from sheets, with their rooms by the grain of a sheet.
type task struct {
	wants  []api.Want
	sheets []api.Sheet
	rooms  [3]rooms
}

func newTask(l []api.Want, s []api.Sheet) task {
	t := task{wants: l, sheets: s}
	for grain := range t.rooms {
		t.rooms[grain] = roomsOf(l, grain)
	}
	return t
}

// assign returns the assignment of all wants with the least area, and of several the first one, if there is one.
func (t task) assign() (assignment, bool) {
	// best is the best assignment of each group to the sheets so far. What is assigned to one sheet does not depend on what is to the others, so the best of all is made of best ones.
	best := map[group]assignment{0: {}}
	for _, sheet := range t.sheets {
		next := maps.Clone(best)
		for some := range t.coloured(sheet.Colour).parts() {
			if some == 0 || !t.rooms[sheet.Grain].fit(some, whole(sheet)) {
				continue
			}
			for before := range (all(t.wants) - some).parts() {
				a, ok := best[before]
				if !ok {
					continue
				}
				a = a.with(some, sheet)
				if old, ok := next[before|some]; !ok || a.compare(old) < 0 {
					next[before|some] = a
				}
			}
		}
		best = next
	}
	a, ok := best[all(t.wants)]
	return a, ok
}

// coloured returns the group of the wants of a colour.
func (t task) coloured(colour int) group {
	g := group(0)
	for k, w := range t.wants {
		if w.Colour == colour {
			g |= 1 << k
		}
	}
	return g
}

// with returns an assignment to which a group of wants is added that one more sheet has room for.
func (a assignment) with(g group, s api.Sheet) assignment {
	a.area += s.W * s.H
	for k := range a.sheets {
		if g.has(k) {
			a.sheets[k] = s.ID
		}
	}
	return a
}

// on returns the group of the wants that are assigned to a sheet.
func (a assignment) on(sheet int) group {
	g := group(0)
	for k, id := range a.sheets {
		if id == sheet {
			g |= 1 << k
		}
	}
	return g
}

// compare orders assignments of the same wants by area, and then as lists.
func (a assignment) compare(b assignment) int {
	return cmp.Or(cmp.Compare(a.area, b.area), slices.Compare(a.sheets[:], b.sheets[:]))
}

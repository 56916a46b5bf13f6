package plans

import (
	"slices"

	"leadlight/api"
	"leadlight/leading"
)

// Sets returns all feasible sets of panes.
func Sets(j api.Job) ([][]int, api.Errno) {
	t, e := read(j)
	if e != api.OK {
		return nil, e
	}
	var out [][]int
	for s := range newLifts(t).costs {
		out = append(out, s.panes())
	}
	slices.SortFunc(out, slices.Compare[[]int])
	return out, api.OK
}

// Cheapest returns the feasible set with some panes whose leads cost least.
func Cheapest(j api.Job, panes []int) (set []int, price int, e api.Errno) {
	t, e := read(j)
	if e != api.OK {
		return nil, 0, e
	}
	if !t.isList(panes) {
		return nil, 0, api.ErrArg
	}
	best := newLifts(t).cheapest(setOf(panes))
	if best.price == api.NoPlan {
		return nil, 0, api.ErrLift
	}
	return best.set.panes(), best.price, api.OK
}

// Cost returns what a filling with a lifted set costs.
func Cost(j api.Job, l []api.Option, set []int) (int, api.Errno) {
	t, f, e := readFilling(j, l)
	if e != api.OK {
		return 0, e
	}
	return t.cost(f, set)
}

// Lower returns what the changes of the first panes cost at least.
func Lower(j api.Job, l []api.Option) (int, api.Errno) {
	t, e := read(j)
	if e != api.OK {
		return 0, e
	}
	if len(l) > len(t.panes) {
		return 0, api.ErrArg
	}
	var first picks
	for i, o := range l {
		k := slices.Index(t.problem.Options[i], o)
		if k < 0 {
			return 0, api.ErrNone
		}
		first[i] = k + 1
	}
	best := newLifts(t).cheapest(t.changed(first))
	if best.price == api.NoPlan {
		return 0, api.ErrLift
	}
	return t.price(first) + best.price, api.OK
}

// leadPrice returns the price of a set, as leading.Price does, but without checking the whole panel each time.
func (t *task) leadPrice(s set) int {
	sum := 0
	for _, at := range t.strips {
		if at.panes.common(s) != (set{}) {
			sum += at.cost
		}
	}
	return sum
}

// cost returns the cost of a filling with a list of panes, or ErrLift if this is no lifting of it.
func (t *task) cost(f picks, list []int) (int, api.Errno) {
	feasible, _ := leading.Feasible(t.panel, list)
	if !feasible || t.changed(f).without(setOf(list)) != (set{}) {
		return 0, api.ErrLift
	}
	return t.price(f) + t.leadPrice(setOf(list)), api.OK
}

// lifts are all feasible sets of a job, with their prices.
type lifts struct {
	*task
	costs map[set]int
	best  map[set]lifting // the cheapest liftings of the sets for which they were asked
}

// lifting is a feasible set with its price. Where there is none, the price is NoPlan.
type lifting struct {
	set
	price int
}

// before reports whether a lifting is cheaper than another one, or costs the same and comes first.
func (a lifting) before(b lifting) bool {
	if a.price != b.price {
		return a.price < b.price
	}
	return slices.Compare(a.panes(), b.panes()) < 0
}

// newLifts finds the feasible sets: each one but the empty one is a feasible set with one more pane that is free then.
func newLifts(t *task) lifts {
	l := lifts{t, map[set]int{{}: 0}, map[set]lifting{}}
	free := newFreedom(t).free
	for next := []set{{}}; len(next) > 0; next = next[1:] {
		for i := range t.panes {
			more := next[0].with(i)
			if _, known := l.costs[more]; !known && free(i, next[0]) {
				l.costs[more] = t.leadPrice(more)
				next = append(next, more)
			}
		}
	}
	return l
}

// cheapest returns the cheapest feasible set that contains a set, and of several the first one.
func (l lifts) cheapest(s set) lifting {
	if known, ok := l.best[s]; ok {
		return known
	}
	best := lifting{price: api.NoPlan}
	if price, feasible := l.costs[s]; feasible {
		best = lifting{s, price}
	}
	for i := range l.panes {
		if s[i] {
			continue
		}
		if other := l.cheapest(s.with(i)); other.before(best) {
			best = other
		}
	}
	l.best[s] = best
	return best
}

// freedom tells which panes are free if just the panes of a feasible set are absent. All of these have a way out, so for a pane it matters only which of its neighbours are absent.
type freedom struct {
	*task
	neighbours [api.MaxLift]set
	known      map[spot]bool
}

// spot is a pane with those of its neighbours that are absent.
type spot struct {
	pane   int
	absent set
}

func newFreedom(t *task) freedom {
	f := freedom{task: t, known: map[spot]bool{}}
	for _, at := range t.strips {
		for i, is := range at.panes {
			if is {
				f.neighbours[i] = f.neighbours[i].join(at.panes)
			}
		}
	}
	return f
}

// free reports whether a pane is present and free if the panes of a feasible set are absent.
func (f freedom) free(i int, absent set) bool {
	at := spot{i, absent.common(f.neighbours[i])}
	is, known := f.known[at]
	if !known {
		is, _ = leading.Free(f.panel, f.all().without(absent).panes(), i+1)
		f.known[at] = is
	}
	return is
}

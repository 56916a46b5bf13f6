package plans_test

import (
	"math/rand"
	"slices"
	"testing"

	"leadlight/api"
	"leadlight/leading"
	"leadlight/plans"
)

// sameLists reports whether two lists of lists are equal.
func sameLists(a, b [][]int) bool { return slices.EqualFunc(a, b, slices.Equal[[]int]) }

// TestSets is P8.8 and J10: all feasible sets, and no others, in order.
func TestSets(t *testing.T) {
	several := 0
	for _, k := range samples() {
		l, e := plans.Sets(k.Job)
		if !sameLists(l, k.sets) || e != api.OK {
			t.Error("Sets", k.Job, l, k.sets, e)
		}
		if len(l) > 2 && len(l) < 1<<len(k.panes) {
			several++
		}
	}
	if several < 50 {
		t.Error("few sets", several)
	}
	j := empty(12)
	l, e := plans.Sets(j)
	// The panes of the row come out one after the other, from the left.
	want := [][]int{nil}
	for n := range 12 {
		want = append(want, append(slices.Clone(want[n]), n+1))
	}
	if !sameLists(l, want) || e != api.OK {
		t.Error("Sets of a row", l, e)
	}
	for _, w := range j.Case.Web.Leads {
		if w.ID != 1 && w.A%2 == w.B%2 {
			j.Open = append(j.Open, w.ID)
		}
	}
	if l, e := plans.Sets(j); !sameLists(l, lists(12)) || len(l) != 4096 || e != api.OK {
		t.Error("Sets of an open row", len(l), e)
	}
}

// TestSetsExamples has the chapter's examples of J10 and J11.
func TestSetsExamples(t *testing.T) {
	if l, e := plans.Sets(example()); !sameLists(l, [][]int{nil, {1, 2}, {2}}) || e != api.OK {
		t.Error("Sets", l, e)
	}
	shut := example()
	shut.Open = nil
	if l, e := plans.Sets(shut); !sameLists(l, [][]int{nil}) || e != api.OK {
		t.Error("Sets of a shut panel", l, e)
	}
	free := example()
	for k := range free.Case.Web.Leads {
		free.Case.Web.Leads[k].Cost = 0
	}
	for _, x := range []struct {
		j     api.Job
		panes []int
		set   []int
		price int
		e     api.Errno
	}{
		{example(), []int{1}, []int{1, 2}, 60, api.OK}, {example(), []int{2}, []int{2}, 40, api.OK},
		{example(), []int{1, 2}, []int{1, 2}, 60, api.OK}, {example(), nil, nil, 0, api.OK},
		{shut, nil, nil, 0, api.OK}, {shut, []int{2}, nil, 0, api.ErrLift},
		{free, nil, nil, 0, api.OK}, {free, []int{2}, []int{1, 2}, 0, api.OK},
		{example(), []int{0}, nil, 0, api.ErrArg}, {example(), []int{3}, nil, 0, api.ErrArg}, {example(), []int{1, 3}, nil, 0, api.ErrArg},
		{example(), []int{2, 1}, nil, 0, api.ErrArg}, {example(), []int{1, 1}, nil, 0, api.ErrArg}, {example(), []int{-1, 1}, nil, 0, api.ErrArg},
		{shut, []int{3}, nil, 0, api.ErrArg},
	} {
		if set, price, e := plans.Cheapest(x.j, x.panes); !slices.Equal(set, x.set) || price != x.price || e != x.e {
			t.Error("Cheapest", x, set, price, e)
		}
	}
	for _, n := range extremes() {
		for _, l := range [][]int{{n}, {1, n}, {n, 2}} {
			if set, price, e := plans.Cheapest(example(), l); len(set) != 0 || price != 0 || e != api.ErrArg {
				t.Error("Cheapest", l, set, price, e)
			}
		}
	}
}

// TestCheapest checks J11 against its rule, and has the rest of P8.8: Cheapest of more panes is not cheaper.
func TestCheapest(t *testing.T) {
	none, more := 0, 0
	for _, k := range samples() {
		prices := map[int]int{}
		for bits, panes := range lists(len(k.panes)) {
			set, price, ok := k.wantCheapest(panes)
			s, n, e := plans.Cheapest(k.Job, panes)
			if !slices.Equal(s, set) || n != price || ok && e != api.OK || !ok && e != api.ErrLift {
				t.Error("Cheapest", k.Job, panes, s, n, e)
			}
			prices[bits] = n
			if !ok {
				prices[bits] = api.NoPlan
				none++
			}
			if len(s) > len(panes) {
				more++
			}
		}
		for a, panes := range lists(len(k.panes)) {
			for b, others := range lists(len(k.panes)) {
				if contains(others, panes) && prices[b] < prices[a] {
					t.Error("cheaper with more panes", k.Job, panes, others)
				}
			}
		}
	}
	if none < 50 || more < 50 {
		t.Error("few kinds", none, more)
	}
}

// someSets are lists that may be liftings of a sample: all lists of panes, and what is no list of panes.
func someSets(k known) [][]int {
	n := len(k.panes)
	out := append(lists(n), []int{0}, []int{n + 1}, []int{1, 1}, []int{-1, 1}, []int{1, n + 1})
	if n > 1 {
		out = append(out, []int{2, 1})
	}
	for _, x := range extremes() {
		out = append(out, []int{x}, []int{1, x})
	}
	return out
}

// wantLifting reports whether a list is a lifting of a filling.
func (k known) wantLifting(f []api.Option, set []int) bool {
	return slices.ContainsFunc(k.sets, func(s []int) bool { return slices.Equal(s, set) }) && contains(set, k.wantChanged(f))
}

// TestCost checks J12 against its rule.
func TestCost(t *testing.T) {
	good, bad := 0, 0
	d := rand.New(rand.NewSource(5))
	for _, k := range samples() {
		every := k.fillings()
		f := every[d.Intn(len(every))]
		for _, set := range someSets(k) {
			n, e := plans.Cost(k.Job, f, set)
			if !k.wantLifting(f, set) {
				bad++
				if n != 0 || e != api.ErrLift {
					t.Error("no lifting", k.Job, f, set, n, e)
				}
				continue
			}
			good++
			if price, _ := leading.Price(k.panel, set); n != price+k.wantPrice(f) || e != api.OK {
				t.Error("Cost", k.Job, f, set, n, e)
			}
		}
	}
	if good < 100 || bad < 100 {
		t.Error("few liftings", good, bad)
	}
}

// TestLower checks J17 against its rule, and is P8.5: Lower does not decrease with more options, and is at most the cost of the filling with any lifting.
func TestLower(t *testing.T) {
	none, rose := 0, 0
	for _, k := range samples() {
		for _, f := range someFillings(k)[1:4] {
			before := 0
			for n := range len(f) + 1 {
				_, price, ok := k.wantCheapest(k.wantChanged(f[:n]))
				low, e := plans.Lower(k.Job, f[:n])
				if !ok {
					none++
					if low != 0 || e != api.ErrLift {
						t.Error("Lower without a set", k.Job, f[:n], low, e)
					}
					low = api.NoPlan
				} else if low != price+k.wantPrice(f[:n]) || e != api.OK {
					t.Error("Lower", k.Job, f[:n], low, e)
				}
				if low < before {
					t.Error("Lower decreases", k.Job, f[:n], low, before)
				}
				if low > before && before > 0 {
					rose++
				}
				before = low
			}
			for _, set := range k.sets {
				if cost, e := plans.Cost(k.Job, f, set); e == api.OK && cost < before {
					t.Error("Lower is more than the cost", k.Job, f, set, cost, before)
				}
			}
		}
	}
	if none < 50 || rose < 50 {
		t.Error("few kinds", none, rose)
	}
}

// TestLowerErrors checks which lists Lower takes: their elements are options, but they do not have to agree.
func TestLowerErrors(t *testing.T) {
	a, b := glazed(1, 1), fresh(1)
	shut := example()
	shut.Open = nil
	for _, x := range []struct {
		j    api.Job
		l    []api.Option
		want int
		e    api.Errno
	}{
		{example(), nil, 0, api.OK}, {example(), []api.Option{fresh(2)}, 0, api.OK}, {example(), []api.Option{b, b}, 70, api.OK},
		{planned(), []api.Option{a}, 62, api.OK}, {planned(), []api.Option{b}, 65, api.OK},
		{example(), []api.Option{a, b, b}, 0, api.ErrArg}, {example(), []api.Option{{}, {}, {}}, 0, api.ErrArg}, {example(), []api.Option{{}}, 0, api.ErrNone},
		{example(), []api.Option{a, a}, 0, api.ErrNone}, {early(), []api.Option{a}, 0, api.ErrNone},
		{shut, []api.Option{fresh(2)}, 0, api.OK}, {shut, []api.Option{a}, 0, api.ErrLift}, {shut, []api.Option{a, {}}, 0, api.ErrNone},
	} {
		if n, e := plans.Lower(x.j, x.l); n != x.want || e != x.e {
			t.Error("Lower", x, n, e)
		}
	}
}

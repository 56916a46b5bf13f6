package leading_test

import (
	"math"
	"math/rand"
	"slices"
	"testing"

	"leadlight/api"
	"leadlight/leading"
)

// TestApartAndOrder compares N8 and N9 with their rules.
func TestApartAndOrder(t *testing.T) {
	d := rand.New(rand.NewSource(4))
	wrong := 0
	for _, s := range samples() {
		for _, present := range s.someLists(d) {
			want := s.wantTaken(present, present)
			order, core, e := leading.Apart(s.Panel, present)
			if !slices.Equal(order, want) || !slices.Equal(core, minus(present, want)) || e != api.OK {
				t.Error("Apart", s.Panel, present, order, core, e)
			}
			if e, k := leading.Order(s.Panel, present, order); e != api.OK || k != 0 {
				t.Error("Order of Apart", s.Panel, present, order, e, k)
			}
			for range 3 {
				mixed := slices.Clone(present)
				d.Shuffle(len(mixed), func(i, k int) { mixed[i], mixed[k] = mixed[k], mixed[i] })
				if len(order) > 0 && d.Intn(2) == 0 {
					mixed = append(slices.Clone(order[:d.Intn(len(order))]), mixed...)
				}
				first := s.wantStuck(present, mixed)
				e, k := leading.Order(s.Panel, present, mixed)
				if first < 0 && (e != api.OK || k != 0) || first >= 0 && (e != api.ErrStuck || k != first) {
					t.Error("Order", s.Panel, present, mixed, e, k, first)
				}
				if first > 0 {
					wrong++
				}
			}
		}
	}
	if wrong < 200 {
		t.Error("few orders that begin well", wrong)
	}
}

// wantStuck returns the index of the first of panes that is not free when it is its turn, or -1.
func (s known) wantStuck(present, order []int) int {
	for k, pane := range order {
		if !slices.Contains(s.wantFrees(present), pane) {
			return k
		}
		present = minus(present, []int{pane})
	}
	return -1
}

func TestOrderExamples(t *testing.T) {
	all := []int{1, 2}
	if order, core, e := leading.Apart(example(3), all); len(order) != 0 || !slices.Equal(core, all) || e != api.OK {
		t.Error("Apart", order, core, e)
	}
	if order, core, e := leading.Apart(example(3, 4), all); !slices.Equal(order, []int{2, 1}) || len(core) != 0 || e != api.OK {
		t.Error("Apart", order, core, e)
	}
	if order, core, e := leading.Apart(example(3, 4), nil); len(order) != 0 || len(core) != 0 || e != api.OK {
		t.Error("Apart of nothing", order, core, e)
	}
	for _, x := range []struct {
		present, order []int
		want           api.Errno
		at             int
	}{
		{all, nil, api.OK, 0}, {all, []int{2}, api.OK, 0}, {all, []int{2, 1}, api.OK, 0}, {nil, nil, api.OK, 0},
		{all, []int{1, 2}, api.ErrStuck, 0}, {all, []int{2, 2}, api.ErrStuck, 1}, {all, []int{2, 1, 1}, api.ErrStuck, 2},
		{all, []int{2, 3}, api.ErrStuck, 1}, {all, []int{0}, api.ErrStuck, 0}, {all, []int{2, -1}, api.ErrStuck, 1},
		{all, []int{math.MaxInt}, api.ErrStuck, 0}, {all, []int{2, math.MinInt}, api.ErrStuck, 1},
		{[]int{1}, []int{2}, api.ErrStuck, 0}, {[]int{1}, []int{1}, api.OK, 0}, {nil, []int{1}, api.ErrStuck, 0},
	} {
		if e, k := leading.Order(example(3, 4), x.present, x.order); e != x.want || k != x.at {
			t.Error("Order", x, e, k)
		}
	}
	if l, e := leading.Opened(example(3), []int{1}); !slices.Equal(l, []int{1, 2, 6}) || e != api.OK {
		t.Error("Opened", l, e)
	}
	if n, e := leading.Price(example(3), []int{1}); n != 30 || e != api.OK {
		t.Error("Price", n, e)
	}
}

// TestSets compares N10 to N15 with their rules, and has P4.4 and P4.9.
func TestSets(t *testing.T) {
	held, feasible := 0, 0
	for _, s := range samples() {
		if len(s.panes) > 5 {
			continue
		}
		var good [][]int
		for _, set := range subsets(s.all()) {
			want := s.wantFeasible(set)
			if is, e := leading.Feasible(s.Panel, set); is != want || e != api.OK {
				t.Error("Feasible", s.Panel, set, is, e)
			}
			checkTaking(t, s, set, want)
			checkPrice(t, s, set)
			if want {
				good = append(good, set)
			} else {
				held++
			}
		}
		feasible += len(good)
		checkFeasible(t, s, good)
	}
	if held < 200 || feasible < 200 {
		t.Error("few sets", held, feasible)
	}
}

// checkTaking is the part of TestSets for the orders of a set.
func checkTaking(t *testing.T, s known, set []int, feasible bool) {
	t.Helper()
	taking, e := leading.Taking(s.Panel, set)
	back, f := leading.Leading(s.Panel, set)
	if !feasible {
		if len(taking) != 0 || e != api.ErrStuck || len(back) != 0 || f != api.ErrStuck {
			t.Error("no order", s.Panel, set, taking, e, back, f)
		}
		return
	}
	want := s.wantTaken(s.all(), set)
	if !slices.Equal(taking, want) || e != api.OK {
		t.Error("Taking", s.Panel, set, taking, want, e)
	}
	slices.Reverse(want)
	if !slices.Equal(back, want) || f != api.OK {
		t.Error("Leading", s.Panel, set, back, want, f)
	}
}

// checkPrice is the part of TestSets for the leads around a set.
func checkPrice(t *testing.T, s known, set []int) {
	t.Helper()
	want, cost := s.wantOpened(set), 0
	for _, id := range want {
		cost += s.lead(id).Cost
	}
	if l, e := leading.Opened(s.Panel, set); !slices.Equal(l, want) || e != api.OK {
		t.Error("Opened", s.Panel, set, l, e)
	}
	if n, e := leading.Price(s.Panel, set); n != cost || e != api.OK {
		t.Error("Price", s.Panel, set, n, cost, e)
	}
}

// checkFeasible is P4.4 for the list of all feasible sets, and N11.
func checkFeasible(t *testing.T, s known, good [][]int) {
	t.Helper()
	isGood := func(set []int) bool {
		return slices.ContainsFunc(good, func(l []int) bool { return slices.Equal(l, set) })
	}
	for _, set := range good {
		for _, other := range good {
			if !isGood(union(set, other)) {
				t.Error("union", s.Panel, set, other)
			}
		}
		less := func(pane int) bool { return isGood(minus(set, []int{pane})) }
		if len(set) > 0 && !slices.ContainsFunc(set, less) {
			t.Error("no pane can be left out", s.Panel, set)
		}
	}
	for _, set := range subsets(s.all()) {
		var want []int
		for _, other := range good {
			if len(minus(other, set)) == 0 {
				want = union(want, other)
			}
		}
		if l, e := leading.Greatest(s.Panel, set); !slices.Equal(l, want) || e != api.OK {
			t.Error("Greatest", s.Panel, set, l, want, e)
		}
	}
}

func TestSetExamples(t *testing.T) {
	p := example(3, 4)
	for _, x := range []struct {
		set, greatest []int
		want          bool
	}{{nil, nil, true}, {[]int{1}, nil, false}, {[]int{2}, []int{2}, true}, {[]int{1, 2}, []int{1, 2}, true}} {
		if is, e := leading.Feasible(p, x.set); is != x.want || e != api.OK {
			t.Error("Feasible", x, is, e)
		}
		if l, e := leading.Greatest(p, x.set); !slices.Equal(l, x.greatest) || e != api.OK {
			t.Error("Greatest", x, l, e)
		}
	}
	if l, e := leading.Taking(p, []int{1, 2}); !slices.Equal(l, []int{2, 1}) || e != api.OK {
		t.Error("Taking", l, e)
	}
	if l, e := leading.Leading(p, []int{1, 2}); !slices.Equal(l, []int{1, 2}) || e != api.OK {
		t.Error("Leading", l, e)
	}
	for _, f := range []func(api.Panel, []int) ([]int, api.Errno){leading.Taking, leading.Leading, leading.Greatest, leading.Opened} {
		if l, e := f(p, nil); len(l) != 0 || e != api.OK {
			t.Error("nothing", l, e)
		}
	}
	if n, e := leading.Price(p, nil); n != 0 || e != api.OK {
		t.Error("Price of nothing", n, e)
	}
}

// TestCore is P4.3: the core is the same for any order, and the greatest set that nothing leaves.
func TestCore(t *testing.T) {
	d := rand.New(rand.NewSource(5))
	left := 0
	for _, s := range samples() {
		for _, present := range s.someLists(d) {
			_, core, _ := leading.Apart(s.Panel, present)
			still := present
			for {
				frees, _ := leading.Frees(s.Panel, still)
				if len(frees) == 0 {
					break
				}
				still = minus(still, []int{frees[d.Intn(len(frees))]})
			}
			if !slices.Equal(still, core) {
				t.Error("another core", s.Panel, present, still, core)
			}
			if len(core) > 0 && len(core) < len(present) {
				left++
			}
			if len(present) > 6 {
				continue
			}
			for _, some := range subsets(present) {
				if len(s.wantFrees(some)) == 0 && len(minus(some, core)) > 0 {
					t.Error("not the greatest", s.Panel, present, some, core)
				}
			}
		}
	}
	if left < 15 {
		t.Error("few cores", left)
	}
}

// TestPriceParts is P4.9.
func TestPriceParts(t *testing.T) {
	d := rand.New(rand.NewSource(6))
	for _, s := range samples() {
		for _, a := range s.someLists(d) {
			b := part(d, s.all())
			priceA, _ := leading.Price(s.Panel, a)
			priceB, _ := leading.Price(s.Panel, b)
			both, _ := leading.Price(s.Panel, union(a, b))
			less, _ := leading.Price(s.Panel, part(d, a))
			if both > priceA+priceB || less > priceA {
				t.Error(s.Panel, a, b, priceA, priceB, both, less)
			}
		}
	}
}

// TestGoesTogether is P0.3: what is taken out goes in again, in the reversed order, each pane along a free way.
func TestGoesTogether(t *testing.T) {
	d := rand.New(rand.NewSource(7))
	put := 0
	for _, s := range samples() {
		for _, some := range s.someLists(d) {
			set, _ := leading.Greatest(s.Panel, some)
			taking, _ := leading.Taking(s.Panel, set)
			back, _ := leading.Leading(s.Panel, set)
			if e, k := leading.Order(s.Panel, s.all(), taking); e != api.OK {
				t.Error("taking out", s.Panel, set, taking, e, k)
			}
			present := minus(s.all(), taking)
			for _, pane := range back {
				present = union(present, []int{pane})
				if is, e := leading.Free(s.Panel, present, pane); !is || e != api.OK {
					t.Error("putting in", s.Panel, set, back, pane, e)
				}
				put++
			}
			if !slices.Equal(present, s.all()) {
				t.Error("not all are back", s.Panel, set, back)
			}
		}
	}
	if put < 500 {
		t.Error("few panes", put)
	}
}

// TestMostPanes takes apart a panel of 64 panes through one open lead.
func TestMostPanes(t *testing.T) {
	s := know(api.Panel{Web: lattice(8, 8, 3), Open: []int{1}, Pins: pins(1)})
	order, core, e := leading.Apart(s.Panel, s.all())
	if !slices.Equal(order, s.wantTaken(s.all(), s.all())) || len(order) != 64 || len(core) != 0 || e != api.OK {
		t.Error("Apart", order, core, e)
	}
	if e, k := leading.Order(s.Panel, s.all(), order); e != api.OK || k != 0 {
		t.Error("Order", e, k)
	}
	if is, e := leading.Feasible(s.Panel, s.all()); !is || e != api.OK {
		t.Error("Feasible", is, e)
	}
	if l, e := leading.Opened(s.Panel, s.all()); len(l) != 144 || e != api.OK {
		t.Error("Opened", len(l), e)
	}
	if l, e := leading.Greatest(s.Panel, minus(s.all(), []int{1})); len(l) != 0 || e != api.OK {
		t.Error("Greatest behind pane 1", l, e)
	}
}

// TestDearest adds up the greatest costs.
func TestDearest(t *testing.T) {
	w := lattice(8, 8, 3)
	for k := range w.Leads {
		w.Leads[k].Cost = api.MaxPrice
	}
	s := know(api.Panel{Web: w, Pins: pins(1)})
	if n, e := leading.Price(s.Panel, s.all()); n != 144*api.MaxPrice || e != api.OK {
		t.Error(n, e)
	}
}

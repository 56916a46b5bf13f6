package places_test

import (
	"math/rand"
	"slices"
	"testing"

	"leadlight/api"
	"leadlight/places"
)

// TestClashExamples are the chapter's examples of clashes and reasons (G15, G16).
func TestClashExamples(t *testing.T) {
	p := example()
	if l, e := places.Clash(p); len(l) > 0 || e != api.ErrNone {
		t.Error("Clash", l, e)
	}
	if l, e := places.Clash(with(p, never())); !slices.Equal(l, []int{5}) || e != api.OK {
		t.Error("never", l, e)
	}
	if l, e := places.Reason(p, 0, 1); !slices.Equal(l, []int{3, 4}) || e != api.OK {
		t.Error("Reason", l, e)
	}
	if l, e := places.Reason(p, 0, 2); !slices.Equal(l, []int{3}) || e != api.OK {
		t.Error("lost", l, e)
	}
	if l, e := places.Reason(p, 0, 0); len(l) > 0 || e != api.ErrNone {
		t.Error("possible", l, e)
	}
	twice := api.Problem{Panes: []int{1, 2}, Options: [][]api.Option{{glazed(5, 1)}, {glazed(5, 1), fresh(1)}}}
	if l, e := places.Reason(twice, 1, 0); len(l) > 0 || e != api.OK {
		t.Error("not sound", l, e)
	}
	twice.Options[1] = twice.Options[1][:1]
	if l, e := places.Clash(with(twice, counts(3, only(1), nil))); len(l) > 0 || e != api.OK {
		t.Error("no sound filling", l, e)
	}
}

// TestLeastSet checks which one of several sets is told, with as many items as there can be (G15).
func TestLeastSet(t *testing.T) {
	// The filling i violates the items of which a set has bit i.
	clash := func(n int, sets map[int][]int) api.Problem {
		p := plain(n)
		for item := 1; item <= 16; item++ {
			hits := make([]bool, n)
			for _, i := range sets[item] {
				hits[i] = true
			}
			p.Rules = append(p.Rules, counts(item, only(0), []int{0}, hits))
		}
		return p
	}
	for _, x := range []struct {
		n    int
		sets map[int][]int
		want []int
	}{
		{2, map[int][]int{1: {0}, 2: {1}, 9: {0, 1}}, []int{9}},
		{2, map[int][]int{3: {0}, 4: {1}, 2: {0}, 5: {1}}, []int{2, 4}},
		{3, map[int][]int{1: {0}, 2: {1}, 3: {2}, 15: {0, 1}, 16: {2}}, []int{3, 15}},
		{3, map[int][]int{1: {0}, 2: {1}, 8: {2}, 15: {0, 1}, 16: {2}}, []int{8, 15}},
		{4, map[int][]int{1: {0, 1}, 2: {0, 2}, 3: {1, 3}, 4: {2, 3}}, []int{1, 4}},
		{4, map[int][]int{2: {0, 2}, 3: {1, 3}, 4: {2, 3}}, []int{2, 3}},
	} {
		if l, e := places.Clash(clash(x.n, x.sets)); !slices.Equal(l, x.want) || e != api.OK {
			t.Error(x, l, e)
		}
	}
	each := map[int][]int{}
	for item := 1; item <= 16; item++ {
		each[item] = []int{item - 1}
	}
	if l, e := places.Clash(clash(16, each)); len(l) != 16 || e != api.OK {
		t.Error("all", l, e)
	}
	if l, e := places.Clash(clash(17, each)); len(l) > 0 || e != api.ErrNone {
		t.Error("one agrees", l, e)
	}
}

// leastClash returns the least set of items of which each sound filling of some violates one, if there is one.
func (s sample) leastClash(fillings [][]int) ([]int, bool) {
	var violated [][]int
	for _, f := range fillings {
		if s.sound(f) {
			violated = append(violated, s.violates(f))
		}
	}
	for _, set := range s.sets() {
		misses := func(l []int) bool {
			return !slices.ContainsFunc(l, func(item int) bool { return slices.Contains(set, item) })
		}
		if !slices.ContainsFunc(violated, misses) {
			return set, true
		}
	}
	return nil, false
}

// TestClashes compares G15 and G16 with their rules.
func TestClashes(t *testing.T) {
	sizes := map[int]int{}
	for _, s := range samples(t) {
		check := func(fillings [][]int, got []int, e api.Errno) {
			want, ok := s.leastClash(fillings)
			end := api.ErrNone
			if ok {
				end = api.OK
				sizes[len(want)]++
			}
			if !slices.Equal(got, want) || e != end {
				t.Fatal(s, got, e, want)
			}
		}
		l, e := places.Clash(s.Problem)
		check(s.fillings(), l, e)
		for _, at := range s.everyChoice() {
			l, e := places.Reason(s.Problem, at[0], at[1])
			check(slices.DeleteFunc(s.fillings(), func(f []int) bool { return f[at[0]] != at[1] }), l, e)
		}
	}
	if sizes[0] < 1000 || sizes[1] < 1000 || sizes[2] < 100 || sizes[3] < 10 {
		t.Error("few", sizes)
	}
}

// TestSmallerSets is P7.4: with the items that are told nothing agrees, and with any fewer something does.
func TestSmallerSets(t *testing.T) {
	for _, s := range samples(t) {
		if set, e := places.Clash(s.Problem); e == api.OK {
			s.checkSmaller(t, set, func(p api.Problem) bool {
				n, _ := places.Count(p)
				return n > 0
			})
		}
		for _, at := range s.everyChoice() {
			if set, e := places.Reason(s.Problem, at[0], at[1]); e == api.OK {
				s.checkSmaller(t, set, func(p api.Problem) bool {
					_, e := places.Witness(p, at[0], at[1])
					return e == api.OK
				})
			}
		}
	}
}

// checkSmaller checks that with a set of items nothing agrees, and with each one of fewer items something does.
func (s sample) checkSmaller(t *testing.T, set []int, agrees func(api.Problem) bool) {
	t.Helper()
	p, _ := places.Only(s.Problem, set)
	if agrees(p) {
		t.Fatal("agrees", s, set)
	}
	for _, fewer := range s.sets() {
		p, _ := places.Only(s.Problem, fewer)
		if len(fewer) < len(set) && !agrees(p) {
			t.Fatal("smaller", s, set, fewer)
		}
	}
}

// TestMoreItems is P7.5, and P0.5 for places: with fewer items whatever agreed agrees, and what was possible is possible.
func TestMoreItems(t *testing.T) {
	d := rand.New(rand.NewSource(75))
	less := 0
	for _, s := range samples(t) {
		fewer := slices.DeleteFunc(s.items(), func(int) bool { return d.Intn(3) == 0 })
		p, _ := places.Only(s.Problem, fewer)
		for _, f := range s.fillings() {
			with, _ := places.Agrees(s.Problem, f)
			without, _ := places.Agrees(p, f)
			if with && !without {
				t.Fatal("agrees", s, fewer, f)
			}
			if with != without {
				less++
			}
		}
		possible, _ := places.Possible(s.Problem)
		still, _ := places.Possible(p)
		for _, at := range s.everyChoice() {
			if possible[at[0]][at[1]] && !still[at[0]][at[1]] {
				t.Fatal("possible", s, fewer, at)
			}
		}
		n, _ := places.Count(s.Problem)
		_, e := places.Clash(s.Problem)
		if n > 0 != (e == api.ErrNone) {
			t.Fatal("clash", s, n, e)
		}
	}
	if less < 500 {
		t.Error("few", less)
	}
}

// TestWideClash checks clashes with as many fillings and items as a problem can have.
func TestWideClash(t *testing.T) {
	p := wide()
	if l, e := places.Clash(p); len(l) > 0 || e != api.ErrNone {
		t.Error("none", l, e)
	}
	// The items 1 to 15 each forbid the option 0 of a pane, and the item 16 the option 1 of the first one.
	for k := range p.Rules {
		r := &p.Rules[k]
		i := (k / 16) % 15
		r.Panes, r.Hits, r.Count = []int{i}, [][]bool{{k/16 < 15, k/16 >= 15}}, only(0)
	}
	if l, e := places.Clash(p); !slices.Equal(l, []int{1, 16}) || e != api.OK {
		t.Error("pair", l, e)
	}
	if l, e := places.Reason(p, 3, 0); !slices.Equal(l, []int{4}) || e != api.OK {
		t.Error("one", l, e)
	}
	if l, e := places.Reason(p, 0, 1); !slices.Equal(l, []int{16}) || e != api.OK {
		t.Error("last", l, e)
	}
}

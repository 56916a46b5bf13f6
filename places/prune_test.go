package places_test

import (
	"math"
	"math/rand"
	"slices"
	"testing"

	"leadlight/api"
	"leadlight/places"
)

// pruned strikes options by the words of G17, one after the other in a thrown order, until none can be struck.
func (s sample) pruned(d *rand.Rand) [][]bool {
	left := s.possible(nil)
	for _, row := range left {
		copy(row, repeated(true, len(row)))
	}
	for struck := true; struck; {
		struck = false
		all := s.everyChoice()
		for _, k := range d.Perm(len(all)) {
			i, option := all[k][0], all[k][1]
			if left[i][option] && slices.ContainsFunc(s.Rules, func(r api.Rule) bool { return strikes(r, left, i, option) }) {
				left[i][option] = false
				struck = true
			}
		}
	}
	return left
}

// strikes reports whether an option can be struck because of a rule.
func strikes(r api.Rule, left [][]bool, pane, option int) bool {
	at := slices.Index(r.Panes, pane)
	if at < 0 {
		return false
	}
	if r.Kind == api.RulePair {
		for k, is := range left[r.Panes[1-at]] {
			if is && (at == 0 && r.OK[option][k] || at == 1 && r.OK[k][option]) {
				return false
			}
		}
		return true
	}
	numbers := map[int]bool{0: true}
	for k, i := range r.Panes {
		more := map[int]bool{}
		for o, is := range left[i] {
			if i == pane && o != option || !is {
				continue
			}
			for n := range numbers {
				if r.Hits[k][o] {
					more[n+1] = true
				} else {
					more[n] = true
				}
			}
		}
		numbers = more
	}
	for n := range numbers {
		if r.Count.Lo <= n && n <= r.Count.Hi {
			return false
		}
	}
	return true
}

// TestPruneExamples is the chapter's example, and what its rule says of panes without options and rules without panes (G17).
func TestPruneExamples(t *testing.T) {
	if left, e := places.Prune(example()); !sameBools(left, [][]bool{{true, true, false}, {true, true, false}}) || e != api.OK {
		t.Error(left, e)
	}
	if left, e := places.Prune(api.Problem{}); len(left) > 0 || e != api.OK {
		t.Error("nothing", left, e)
	}
	if left, e := places.Prune(with(example(), never())); !sameBools(left, [][]bool{make([]bool, 3), make([]bool, 3)}) || e != api.OK {
		t.Error("never", left, e)
	}
	one, two, three := []bool{true}, []bool{true, true}, []bool{false, false, true}
	for name, x := range map[string]struct {
		rules []api.Rule
		want  [][]bool
	}{
		"no panes":     {[]api.Rule{counts(1, only(1), nil)}, [][]bool{one, two, {true, true, true}}},
		"alone":        {[]api.Rule{counts(1, only(1), []int{2}, three)}, [][]bool{one, two, three}},
		"emptied":      {[]api.Rule{counts(1, only(2), []int{0}, one), counts(2, span(math.MinInt, math.MaxInt), []int{0, 1}, one, two)}, [][]bool{{false}, {false, false}, {true, true, true}}},
		"pair emptied": {[]api.Rule{counts(1, only(2), []int{0}, one), pairs(2, 2, 0, one, one, one)}, [][]bool{{false}, two, {false, false, false}}},
		"both ways":    {[]api.Rule{counts(1, span(0, 1), []int{0, 2}, one, three)}, [][]bool{one, two, {true, true, false}}},
		"at least":     {[]api.Rule{counts(1, span(3, 9), []int{0, 1, 2}, one, two, three)}, [][]bool{one, two, three}},
		"no number":    {[]api.Rule{counts(1, span(1, 0), []int{1, 2}, two, three)}, [][]bool{one, {false, false}, {false, false, false}}},
	} {
		if left, e := places.Prune(with(plain(1, 2, 3), x.rules...)); !sameBools(left, x.want) || e != api.OK {
			t.Error(name, left, e)
		}
	}
	twice := api.Problem{Panes: []int{1, 2}, Options: [][]api.Option{{glazed(5, 1)}, {glazed(5, 1), fresh(1)}}}
	if left, e := places.Prune(twice); !sameBools(left, [][]bool{{true}, {true, true}}) || e != api.OK {
		t.Error("pieces twice", left, e)
	}
}

// TestPrune compares G17 with its rule in several orders, and is P7.7.
func TestPrune(t *testing.T) {
	d := rand.New(rand.NewSource(77))
	struck, more := 0, 0
	for _, s := range samples(t) {
		left, e := places.Prune(s.Problem)
		for range 3 {
			if want := s.pruned(d); !sameBools(left, want) || e != api.OK {
				t.Fatal(s, left, e, want)
			}
		}
		possible, _ := places.Possible(s.Problem)
		for _, at := range s.everyChoice() {
			is, can := left[at[0]][at[1]], possible[at[0]][at[1]]
			if can && !is {
				t.Fatal("possible", s, at)
			}
			if !is {
				struck++
			}
			if is && !can {
				more++
			}
		}
	}
	if struck < 1000 || more < 100 {
		t.Error("few", struck, more)
	}
}

// TestPruneChain checks a problem of full size in which one option is struck after the other.
func TestPruneChain(t *testing.T) {
	p := plain(repeated(256, 64)...)
	same, shifted := make([][]bool, 256), make([][]bool, 256)
	for k := range 256 {
		same[k], shifted[k] = make([]bool, 256), make([]bool, 256)
		same[k][k] = true
		if k < 255 {
			shifted[k][k+1] = true
		}
	}
	for k := range 256 {
		// The rules are against the order in which options are struck.
		i := 63 - k%64
		if i == 63 {
			p.Rules = append(p.Rules, pairs(1+k/64, i, 0, shifted...))
		} else {
			p.Rules = append(p.Rules, pairs(1+k/64, i, i+1, same...))
		}
	}
	left, e := places.Prune(p)
	if !sameBools(left, repeated(make([]bool, 256), 64)) || e != api.OK {
		t.Error(e)
	}
}

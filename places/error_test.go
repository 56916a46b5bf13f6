package places_test

import (
	"math"
	"slices"
	"testing"

	"leadlight/api"
	"leadlight/places"
)

// call is a call of a function with a problem, perhaps a filling, and otherwise valid arguments; it tells whether all results but the error are zero.
type call struct {
	name   string
	filled bool // takes a filling
	large  bool // takes large problems
	do     func(p api.Problem, f []int) (bool, api.Errno)
}

// calls returns a call of each function that returns an error.
func calls() []call {
	list := func(l []int, e api.Errno) (bool, api.Errno) { return len(l) == 0, e }
	yes := func(is bool, e api.Errno) (bool, api.Errno) { return !is, e }
	number := func(n int, e api.Errno) (bool, api.Errno) { return n == 0, e }
	marks := func(l [][]bool, e api.Errno) (bool, api.Errno) { return len(l) == 0, e }
	return []call{
		{"Space", false, true, func(p api.Problem, f []int) (bool, api.Errno) { return number(places.Space(p)) }},
		{"Sound", true, true, func(p api.Problem, f []int) (bool, api.Errno) { return yes(places.Sound(p, f)) }},
		{"Breaks", true, true, func(p api.Problem, f []int) (bool, api.Errno) { return list(places.Breaks(p, f)) }},
		{"Violates", true, true, func(p api.Problem, f []int) (bool, api.Errno) { return list(places.Violates(p, f)) }},
		{"Agrees", true, true, func(p api.Problem, f []int) (bool, api.Errno) { return yes(places.Agrees(p, f)) }},
		{"First", false, false, func(p api.Problem, f []int) (bool, api.Errno) { return list(places.First(p)) }},
		{"Next", true, false, func(p api.Problem, f []int) (bool, api.Errno) { return list(places.Next(p, f)) }},
		{"Count", false, false, func(p api.Problem, f []int) (bool, api.Errno) { return number(places.Count(p)) }},
		{"Possible", false, false, func(p api.Problem, f []int) (bool, api.Errno) { return marks(places.Possible(p)) }},
		{"Witness", false, false, func(p api.Problem, f []int) (bool, api.Errno) { return list(places.Witness(p, 0, 0)) }},
		{"Forced", false, false, func(p api.Problem, f []int) (bool, api.Errno) { return list(places.Forced(p)) }},
		{"Where", false, false, func(p api.Problem, f []int) (bool, api.Errno) {
			panes, nowhere, e := places.Where(p, 5)
			return len(panes) == 0 && !nowhere, e
		}},
		{"Only", false, true, func(p api.Problem, f []int) (bool, api.Errno) {
			q, e := places.Only(p, []int{3})
			return sameProblem(q, api.Problem{}), e
		}},
		{"Clash", false, false, func(p api.Problem, f []int) (bool, api.Errno) { return list(places.Clash(p)) }},
		{"Reason", false, false, func(p api.Problem, f []int) (bool, api.Errno) { return list(places.Reason(p, 0, 0)) }},
		{"Prune", false, true, func(p api.Problem, f []int) (bool, api.Errno) { return marks(places.Prune(p)) }},
		{"Survey", false, false, func(p api.Problem, f []int) (bool, api.Errno) {
			n, e := places.Survey(p)
			return sameNode(n, api.Node{}), e
		}},
		{"Check", false, false, func(p api.Problem, f []int) (bool, api.Errno) {
			count, possible, e := places.Check(p, api.Node{Kind: 9})
			return count == 0 && len(possible) == 0, e
		}},
	}
}

// TestFillingErrors checks that what is no filling is ErrFilling, also for large problems.
func TestFillingErrors(t *testing.T) {
	problems := larges()
	problems["example"] = example()
	problems["nothing"] = api.Problem{}
	for name, p := range problems {
		n := len(p.Panes)
		wrong := [][]int{make([]int, n+1)}
		for i := range n {
			for _, k := range []int{-1, len(p.Options[i]), math.MinInt, math.MaxInt} {
				f := make([]int, n)
				f[i] = k
				wrong = append(wrong, f)
			}
			wrong = append(wrong, make([]int, i))
		}
		for _, f := range wrong {
			for _, c := range calls() {
				if !c.filled {
					continue
				}
				if zero, e := c.do(p, f); !zero || e != api.ErrFilling {
					t.Fatal(name, c.name, f, zero, e)
				}
			}
		}
	}
}

// TestLarge checks which functions take large problems, and that those that do not say ErrLimit ahead of what their rules say.
func TestLarge(t *testing.T) {
	for name, p := range larges() {
		for _, rules := range [][]api.Rule{nil, {counts(3, only(1), nil)}} {
			for _, c := range calls() {
				zero, e := c.do(with(p, rules...), make([]int, len(p.Panes)))
				if !c.large && (!zero || e != api.ErrLimit) {
					t.Error(name, c.name, zero, e)
				}
				if c.large && c.name != "Space" && e != api.OK {
					t.Error(name, c.name, e)
				}
			}
		}
	}
	p := plain(256, 256, 1)
	for _, c := range calls() {
		if _, e := c.do(p, []int{255, 255, 0}); e == api.ErrLimit || e == api.ErrProblem || e == api.ErrFilling {
			t.Error("not large", c.name, e)
		}
	}
}

// TestLargeFillings checks what is said of fillings of large problems (G3 to G6, G17).
func TestLargeFillings(t *testing.T) {
	p := plain(repeated(256, 64)...)
	p.Options[63][255] = glazed(60000, 1)
	p.Options[0][255] = glazed(60000, 1)
	hits := repeated(false, 256)
	hits[7] = true
	p.Rules = []api.Rule{counts(2, only(64), nil), counts(9, only(64), nil, repeated(hits, 64)...)}
	for i := range 64 {
		p.Rules[1].Panes = append(p.Rules[1].Panes, i)
	}
	sevens := repeated(7, 64)
	if l, e := places.Breaks(p, sevens); !slices.Equal(l, []int{0}) || e != api.OK {
		t.Error("Breaks", l, e)
	}
	sevens[9] = 8
	if l, e := places.Violates(p, sevens); !slices.Equal(l, []int{2, 9}) || e != api.OK {
		t.Error("Violates", l, e)
	}
	if is, e := places.Sound(p, sevens); !is || e != api.OK {
		t.Error("Sound", is, e)
	}
	if is, e := places.Sound(p, repeated(255, 64)); is || e != api.OK {
		t.Error("twice", is, e)
	}
	left, e := places.Prune(with(api.Problem{Panes: p.Panes, Options: p.Options}, p.Rules[1]))
	if !sameBools(left, repeated(hits, 64)) || e != api.OK {
		t.Error("Prune", e)
	}
}

// TestArgErrors checks the other arguments, and that ErrArg comes ahead of ErrLimit.
func TestArgErrors(t *testing.T) {
	for name, p := range map[string]api.Problem{"example": example(), "clash": with(example(), never()), "large": larges()["just"], "endless": larges()["endless"]} {
		last := len(p.Panes) - 1
		for _, at := range [][2]int{{-1, 0}, {last + 1, 0}, {0, -1}, {0, len(p.Options[0])}, {last, len(p.Options[last])}, {math.MaxInt, math.MaxInt}, {math.MinInt, 0}, {0, math.MinInt}} {
			if f, e := places.Witness(p, at[0], at[1]); len(f) > 0 || e != api.ErrArg {
				t.Error(name, "Witness", at, f, e)
			}
			if l, e := places.Reason(p, at[0], at[1]); len(l) > 0 || e != api.ErrArg {
				t.Error(name, "Reason", at, l, e)
			}
		}
		for _, piece := range []int{0, -1, 65536, math.MinInt, math.MaxInt} {
			if panes, nowhere, e := places.Where(p, piece); len(panes) > 0 || nowhere || e != api.ErrArg {
				t.Error(name, "Where", piece, panes, nowhere, e)
			}
		}
		if q, e := places.Only(p, []int{2, 1}); !sameProblem(q, api.Problem{}) || e != api.ErrArg {
			t.Error(name, "Only", q, e)
		}
	}
	if _, e := places.Witness(api.Problem{}, 0, 0); e != api.ErrArg {
		t.Error("no pane", e)
	}
	if _, e := places.Reason(api.Problem{}, 0, 0); e != api.ErrArg {
		t.Error("no pane", e)
	}
	wrong := api.Problem{Panes: []int{1}}
	if _, e := places.Witness(wrong, 0, 0); e != api.ErrProblem {
		t.Error("no options", e)
	}
	if _, _, e := places.Where(wrong, 0); e != api.ErrProblem {
		t.Error("no options", e)
	}
	if _, e := places.Only(wrong, []int{2, 1}); e != api.ErrProblem {
		t.Error("no options", e)
	}
	for _, piece := range []int{1, 65535} {
		if panes, nowhere, e := places.Where(example(), piece); len(panes) > 0 || !nowhere || e != api.OK {
			t.Error(piece, panes, nowhere, e)
		}
	}
}

// TestOwnMemory checks that no function changes or keeps its arguments, and that results are new (R7).
func TestOwnMemory(t *testing.T) {
	for _, s := range samples(t)[:120] {
		p := copied(s.Problem)
		f := make([]int, len(s.Panes))
		for _, c := range calls() {
			c.do(p, f)
			if !sameProblem(p, s.Problem) || !slices.Equal(f, make([]int, len(s.Panes))) {
				t.Fatal(s, c.name)
			}
		}
		for name, get := range map[string]func() []int{
			"First":    func() []int { l, _ := places.First(p); return l },
			"Next":     func() []int { l, _ := places.Next(p, f); return l },
			"Forced":   func() []int { l, _ := places.Forced(p); return l },
			"Breaks":   func() []int { l, _ := places.Breaks(p, f); return l },
			"Violates": func() []int { l, _ := places.Violates(p, f); return l },
			"Clash":    func() []int { l, _ := places.Clash(p); return l },
		} {
			l := get()
			kept := slices.Clone(l)
			for k := range l {
				l[k] = 99
			}
			if !slices.Equal(get(), kept) || !sameProblem(p, s.Problem) {
				t.Fatal(s, name)
			}
		}
		survey, _ := places.Survey(p)
		for name, get := range map[string]func() [][]bool{
			"Possible": func() [][]bool { l, _ := places.Possible(p); return l },
			"Prune":    func() [][]bool { l, _ := places.Prune(p); return l },
			"Check":    func() [][]bool { _, l, _ := places.Check(p, survey); return l },
		} {
			l := get()
			kept := copied(api.Problem{Rules: []api.Rule{{OK: l}}}).Rules[0].OK
			for _, row := range l {
				row[0] = !row[0]
			}
			if !sameBools(get(), kept) || !sameProblem(p, s.Problem) {
				t.Fatal(s, name)
			}
		}
	}
}

package places_test

import (
	"math"
	"math/rand"
	"slices"
	"testing"

	"leadlight/api"
	"leadlight/places"
)

// TestValid is G1: what is valid, at the limits too.
func TestValid(t *testing.T) {
	extremes := []api.Span{span(math.MinInt, math.MaxInt), span(math.MaxInt, math.MinInt), span(-1, -1), span(1, 0)}
	for name, change := range map[string]func(*api.Problem){
		"the example":     func(p *api.Problem) {},
		"nothing":         func(p *api.Problem) { *p = api.Problem{} },
		"the last pane":   func(p *api.Problem) { p.Panes[1] = 64 },
		"all panes":       func(p *api.Problem) { *p = plain(repeated(1, 64)...) },
		"many options":    func(p *api.Problem) { *p = plain(256) },
		"the last piece":  func(p *api.Problem) { p.Options[0][1].Piece = 65535 },
		"the last shift":  func(p *api.Problem) { p.Options[0][1].Setting = api.Setting{Shift: 23, Back: true} },
		"the last colour": func(p *api.Problem) { p.Options[0][2].Colour = 16 },
		"by shift": func(p *api.Problem) {
			p.Options[0][1] = api.Option{Piece: 5, Setting: api.Setting{Shift: 1}, Colour: 1}
		},
		"by back": func(p *api.Problem) {
			p.Options[0][1] = api.Option{Piece: 5, Setting: api.Setting{Back: true}, Colour: 1}
		},
		"by colour": func(p *api.Problem) { p.Options[0][1] = glazed(5, 2) },
		"two lost":  func(p *api.Problem) { p.Options[0][1], p.Options[0][2] = fresh(1), fresh(2) },
		"shift first": func(p *api.Problem) {
			p.Options[0] = []api.Option{{Piece: 5, Setting: api.Setting{Back: true}, Colour: 2}, {Piece: 5, Setting: api.Setting{Shift: 1}, Colour: 1}, {Colour: 1}}
		},
		"the last item": func(p *api.Problem) { p.Rules[1].Item = 65535 },
		"one item":      func(p *api.Problem) { p.Rules[1].Item = 3 },
		"many rules":    func(p *api.Problem) { p.Rules = repeated(p.Rules[0], 256) },
		"many items":    func(p *api.Problem) { p.Rules = risingRules(16) },
		"no panes":      func(p *api.Problem) { p.Rules[0] = counts(3, only(0), nil) },
		"empty lists":   func(p *api.Problem) { p.Rules[0].OK, p.Rules[1].Hits = [][]bool{}, [][]bool{} },
		"the other way": func(p *api.Problem) { p.Rules[1].Panes = []int{1, 0} },
		"one pane":      func(p *api.Problem) { p.Rules[0] = counts(3, only(0), []int{1}, make([]bool, 3)) },
	} {
		p := example()
		change(&p)
		if !places.Valid(p) {
			t.Error(name)
		}
	}
	for _, count := range extremes {
		p := example()
		p.Rules[0].Count = count
		if !places.Valid(p) {
			t.Error(count)
		}
	}
}

// risingRules returns rules of so many items.
func risingRules(items int) []api.Rule {
	var out []api.Rule
	for k := range items {
		out = append(out, counts(k+1, only(0), nil), counts(k+1, only(0), nil))
	}
	return out
}

// TestNotValid is G1: what is not valid, and that every function says so.
func TestNotValid(t *testing.T) {
	for name, change := range wrongs() {
		p := example()
		change(&p)
		if places.Valid(p) {
			t.Error(name)
		}
		for _, c := range calls() {
			if zero, e := c.do(p, []int{0, 9}); !zero || e != api.ErrProblem {
				t.Error(name, c.name, zero, e)
			}
		}
	}
}

// wrongs makes the example wrong.
func wrongs() map[string]func(*api.Problem) {
	option := func(k int, o api.Option) func(*api.Problem) {
		return func(p *api.Problem) { p.Options[0][k] = o }
	}
	rule := func(k int, change func(*api.Rule)) func(*api.Problem) {
		return func(p *api.Problem) { change(&p.Rules[k]) }
	}
	return map[string]func(*api.Problem){
		"pane 0":           func(p *api.Problem) { p.Panes[0] = 0 },
		"pane 65":          func(p *api.Problem) { p.Panes[1] = 65 },
		"pane twice":       func(p *api.Problem) { p.Panes[1] = 1 },
		"panes fall":       func(p *api.Problem) { p.Panes = []int{2, 1} },
		"few options":      func(p *api.Problem) { p.Options = p.Options[:1] },
		"many options":     func(p *api.Problem) { p.Options = append(p.Options, p.Options[0]) },
		"no panes":         func(p *api.Problem) { p.Panes = nil },
		"no option":        func(p *api.Problem) { *p = plain(2, 0) },
		"257 options":      func(p *api.Problem) { *p = plain(257) },
		"piece -1":         option(0, glazed(-1, 1)),
		"piece 65536":      option(1, glazed(65536, 1)),
		"shift -1":         option(0, api.Option{Piece: 5, Setting: api.Setting{Shift: -1}, Colour: 1}),
		"shift 24":         option(0, api.Option{Piece: 5, Setting: api.Setting{Shift: 24}, Colour: 1}),
		"colour 0":         option(0, glazed(5, 0)),
		"colour 17":        option(0, glazed(5, 17)),
		"lost and shifted": option(2, api.Option{Setting: api.Setting{Shift: 1}, Colour: 1}),
		"lost and back":    option(2, api.Option{Setting: api.Setting{Back: true}, Colour: 1}),
		"twice":            option(1, glazed(5, 1)),
		"pieces fall":      option(1, glazed(4, 2)),
		"lost first":       option(0, fresh(1)),
		"lost twice":       option(1, fresh(1)),
		"shifts fall": func(p *api.Problem) {
			p.Options[0] = []api.Option{{Piece: 5, Setting: api.Setting{Shift: 1}, Colour: 1}, {Piece: 5, Setting: api.Setting{Back: true}, Colour: 2}, {Colour: 1}}
		},
		"back first": func(p *api.Problem) {
			p.Options[0] = []api.Option{{Piece: 5, Setting: api.Setting{Back: true}, Colour: 1}, {Piece: 5, Colour: 2}, {Colour: 1}}
		},
		"colours fall":    func(p *api.Problem) { p.Options[0] = []api.Option{glazed(5, 2), glazed(5, 1), fresh(1)} },
		"257 rules":       func(p *api.Problem) { p.Rules = repeated(p.Rules[0], 257) },
		"17 items":        func(p *api.Problem) { p.Rules = risingRules(17) },
		"items fall":      rule(1, func(r *api.Rule) { r.Item = 2 }),
		"item 0":          rule(0, func(r *api.Rule) { r.Item = 0 }),
		"item 65536":      rule(1, func(r *api.Rule) { r.Item = 65536 }),
		"kind 0":          rule(0, func(r *api.Rule) { r.Kind = 0 }),
		"kind 3":          rule(0, func(r *api.Rule) { r.Kind = 3 }),
		"other kind":      rule(0, func(r *api.Rule) { r.Kind = api.RulePair }),
		"one kind":        rule(1, func(r *api.Rule) { r.Kind = api.RuleCount }),
		"rule's pane -1":  rule(0, func(r *api.Rule) { r.Panes[0] = -1 }),
		"rule's pane 2":   rule(0, func(r *api.Rule) { r.Panes[1] = 2 }),
		"rule's twice":    rule(0, func(r *api.Rule) { r.Panes[0] = 1 }),
		"rule's fall":     rule(0, func(r *api.Rule) { r.Panes[0], r.Panes[1] = 1, 0 }),
		"few hits":        rule(0, func(r *api.Rule) { r.Hits = r.Hits[:1] }),
		"many hits":       rule(0, func(r *api.Rule) { r.Hits = append(r.Hits, r.Hits[0]) }),
		"no hits":         rule(0, func(r *api.Rule) { r.Hits = nil }),
		"short hits":      rule(0, func(r *api.Rule) { r.Hits[1] = r.Hits[1][:2] }),
		"long hits":       rule(0, func(r *api.Rule) { r.Hits[1] = append(r.Hits[1], true) }),
		"hits without":    rule(0, func(r *api.Rule) { r.Panes = nil }),
		"count with OK":   rule(0, func(r *api.Rule) { r.OK = [][]bool{nil} }),
		"no pair":         rule(1, func(r *api.Rule) { r.Panes = nil }),
		"one of a pair":   rule(1, func(r *api.Rule) { r.Panes = r.Panes[:1] }),
		"three in a pair": rule(1, func(r *api.Rule) { r.Panes = []int{0, 1, 1} }),
		"equal pair":      rule(1, func(r *api.Rule) { r.Panes[0] = 1 }),
		"pair with -1":    rule(1, func(r *api.Rule) { r.Panes[0] = -1 }),
		"pair with 2":     rule(1, func(r *api.Rule) { r.Panes[1] = 2 }),
		"pair with hits":  rule(1, func(r *api.Rule) { r.Hits = [][]bool{nil} }),
		"pair with low":   rule(1, func(r *api.Rule) { r.Count.Lo = -1 }),
		"pair with high":  rule(1, func(r *api.Rule) { r.Count.Hi = 1 }),
		"no OK":           rule(1, func(r *api.Rule) { r.OK = nil }),
		"few OK":          rule(1, func(r *api.Rule) { r.OK = r.OK[:2] }),
		"many OK":         rule(1, func(r *api.Rule) { r.OK = append(r.OK, r.OK[0]) }),
		"short OK":        rule(1, func(r *api.Rule) { r.OK[2] = r.OK[2][:2] }),
		"long OK":         rule(1, func(r *api.Rule) { r.OK[0] = append(r.OK[0], true) }),
	}
}

// TestTurnedPair checks that OK of a rule is by the rule's first pane, whichever it is (G1).
func TestTurnedPair(t *testing.T) {
	p := plain(2, 3)
	if r := pairs(1, 1, 0, make([]bool, 2), make([]bool, 2), make([]bool, 2)); !places.Valid(with(p, r)) {
		t.Error("by the second pane")
	}
	if r := pairs(1, 1, 0, make([]bool, 3), make([]bool, 3)); places.Valid(with(p, r)) {
		t.Error("by the first pane")
	}
}

// TestSpace is G2.
func TestSpace(t *testing.T) {
	for _, x := range []struct {
		numbers []int
		want    int
		e       api.Errno
	}{
		{nil, 1, api.OK},
		{[]int{1}, 1, api.OK},
		{[]int{3, 3}, 9, api.OK},
		{[]int{256, 256}, 65536, api.OK},
		{[]int{256, 256, 2}, 131072, api.OK},
		{repeated(32, 10), 1 << 50, api.OK},
		{append(repeated(1, 54), repeated(32, 10)...), 1 << 50, api.OK},
		{append(repeated(32, 9), 33), 0, api.ErrLimit},
		{append(repeated(32, 10), 2), 0, api.ErrLimit},
		{append(repeated(32, 10), 1, 1), 1 << 50, api.OK},
		{repeated(2, 64), 0, api.ErrLimit},
		{repeated(16, 16), 0, api.ErrLimit},
		{repeated(256, 64), 0, api.ErrLimit},
	} {
		if n, e := places.Space(plain(x.numbers...)); n != x.want || e != x.e {
			t.Error(x, n, e)
		}
	}
	for _, s := range samples(t) {
		if n, e := places.Space(s.Problem); n != len(s.fillings()) || e != api.OK {
			t.Fatal(s, n, e)
		}
	}
}

// TestOnly is G14, and that the result is new.
func TestOnly(t *testing.T) {
	d := rand.New(rand.NewSource(14))
	list := append(samples(t), sample{with(larges()["endless"], counts(7, only(0), nil), counts(8, only(0), nil))})
	for _, s := range list {
		items := []int{math.MinInt, -3, 0}
		for n := 1; n < 14; n++ {
			if d.Intn(2) == 0 {
				items = append(items, n)
			}
		}
		items = append(items, 70000, math.MaxInt)
		want := copied(s.Problem)
		want.Rules = slices.DeleteFunc(want.Rules, func(r api.Rule) bool { return !slices.Contains(items, r.Item) })
		got, e := places.Only(s.Problem, items)
		if !sameProblem(got, want) || e != api.OK {
			t.Fatal(s, items, got, e)
		}
		before := copied(s.Problem)
		spoil(got)
		if !sameProblem(s.Problem, before) {
			t.Fatal("shared", s, items)
		}
		if none, e := places.Only(s.Problem, nil); len(none.Rules) > 0 || !slices.Equal(none.Panes, s.Panes) || e != api.OK {
			t.Fatal("none", s, none, e)
		}
		if all, e := places.Only(s.Problem, s.items()); !sameProblem(all, s.Problem) || e != api.OK {
			t.Fatal("all", s, all, e)
		}
	}
	for _, items := range [][]int{{3, 3}, {4, 3}, {1, 3, 2}, {0, math.MinInt}} {
		if got, e := places.Only(example(), items); !sameProblem(got, api.Problem{}) || e != api.ErrArg {
			t.Error(items, got, e)
		}
	}
}

// spoil changes all that a problem consists of.
func spoil(p api.Problem) {
	for i := range p.Panes {
		p.Panes[i]++
		p.Options[i][0].Piece++
	}
	for _, r := range p.Rules {
		for k := range r.Panes {
			r.Panes[k]++
		}
		for _, row := range slices.Concat(r.Hits, r.OK) {
			for k := range row {
				row[k] = !row[k]
			}
		}
	}
}

package evidence_test

import (
	"math/rand"
	"slices"
	"testing"

	"leadlight/api"
	"leadlight/evidence"
)

// sameBools, sameRule and sameProblem compare results, for which a nil slice and an empty one are the same.
func sameBools(a, b [][]bool) bool {
	return slices.EqualFunc(a, b, func(l, m []bool) bool { return slices.Equal(l, m) })
}

func sameRule(a, b api.Rule) bool {
	return a.Item == b.Item && a.Kind == b.Kind && slices.Equal(a.Panes, b.Panes) && a.Count == b.Count && sameBools(a.Hits, b.Hits) && sameBools(a.OK, b.OK)
}

func sameProblem(a, b api.Problem) bool {
	sameOptions := func(l, m []api.Option) bool { return slices.Equal(l, m) }
	return slices.Equal(a.Panes, b.Panes) && slices.EqualFunc(a.Options, b.Options, sameOptions) && slices.EqualFunc(a.Rules, b.Rules, sameRule)
}

// rules returns the rules of an item in a year.
func (s sample) rules(x api.Item, year int) []api.Rule {
	if s.silencer(x, year) >= 0 {
		return nil
	}
	var out []api.Rule
	add := func(panes []int, count api.Span, hit func(api.Option) bool) {
		r := api.Rule{Item: x.ID, Kind: 1, Count: count}
		for _, pane := range panes {
			var row []bool
			for _, o := range s.options(pane, year) {
				row = append(row, hit(o))
			}
			r.Panes, r.Hits = append(r.Panes, pane-1), append(r.Hits, row)
		}
		out = append(out, r)
	}
	switch x.Kind {
	case api.ItemPhoto, api.ItemRubbing:
		for _, v := range x.Sights {
			add([]int{v.Pane}, only(1), func(o api.Option) bool { return s.shows(x, v, o) })
		}
	case api.ItemInventory:
		add(x.Panes, x.Count, func(o api.Option) bool { return slices.Contains(x.Colours, o.Colour) })
	case api.ItemSurvivors:
		add(x.Panes, x.Count, func(o api.Option) bool { return o.Piece != 0 })
	case api.ItemFace:
		add(x.Panes, only(0), func(o api.Option) bool { return o.Piece != 0 && o.Setting.Back })
	case api.ItemKept:
		panes, count := x.Panes, only(1)
		if len(panes) == 0 {
			count = only(0)
			for _, pane := range s.panes {
				panes = append(panes, pane.ID)
			}
		}
		add(panes, count, func(o api.Option) bool { return o.Piece == x.Piece })
	case api.ItemPaint:
		at := s.whole[x.Lead]
		r := api.Rule{Item: x.ID, Kind: 2, Panes: []int{at.a - 1, at.b - 1}}
		for _, o := range s.options(at.a, year) {
			var row []bool
			for _, p := range s.options(at.b, year) {
				row = append(row, s.runOn(x, o, p))
			}
			r.OK = append(r.OK, row)
		}
		return []api.Rule{r}
	}
	return out
}

// breaks reports whether a filling of indices breaks a rule.
func breaks(r api.Rule, f []int) bool {
	if r.Kind == api.RulePair {
		return !r.OK[f[r.Panes[0]]][f[r.Panes[1]]]
	}
	n := 0
	for k, i := range r.Panes {
		if r.Hits[k][f[i]] {
			n++
		}
	}
	return !in(n, r.Count)
}

// breaksOne reports whether a filling breaks one of several rules.
func breaksOne(l []api.Rule, f []int) bool {
	return slices.ContainsFunc(l, func(r api.Rule) bool { return breaks(r, f) })
}

// fillings returns all fillings of options if they are few, and otherwise some thrown ones, as indices.
func fillings(d *rand.Rand, options [][]api.Option, few int) [][]int {
	space := 1
	for _, l := range options {
		space = min(space*len(l), 1<<30)
	}
	out := [][]int{nil}
	if space > few {
		out = make([][]int, few)
	}
	for _, l := range options {
		var longer [][]int
		for _, f := range out {
			if space > few {
				longer = append(longer, append(f, d.Intn(len(l))))
				continue
			}
			for n := range l {
				longer = append(longer, append(slices.Clone(f), n))
			}
		}
		out = longer
	}
	return out
}

// choose returns the options with indices.
func choose(options [][]api.Option, f []int) []api.Option {
	var out []api.Option
	for i, n := range f {
		out = append(out, options[i][n])
	}
	return out
}

// TestRuleExample is the chapter's example of rules and spaces.
func TestRuleExample(t *testing.T) {
	c := example()
	c.Items = []api.Item{keptItem()}
	want := api.Rule{Item: 7, Kind: api.RuleCount, Panes: []int{0}, Hits: [][]bool{{true, false, false}}, Count: only(1)}
	if l, e := evidence.Rules(c, 7, 1400); len(l) != 1 || !sameRule(l[0], want) || e != api.OK {
		t.Error("Rules", l, e)
	}
	if n, e := evidence.Space(c, 1300); n != 6 || e != api.OK {
		t.Error("Space", n, e)
	}
	options := [][]api.Option{{glazed(1, 1), fresh(1), fresh(2)}, {fresh(1), fresh(2)}}
	if p, e := evidence.Compile(c, 1400); !sameProblem(p, api.Problem{Panes: []int{1, 2}, Options: options, Rules: []api.Rule{want}}) || e != api.OK {
		t.Error("Compile", p, e)
	}
}

// TestKindExamples has an item of each kind, with the rules that it makes in the case full, in which pane 1 can hold the pieces 1 and 3.
func TestKindExamples(t *testing.T) {
	c := full()
	c.Pieces[1].Swell, c.Pieces[1].Colour = -2, 2
	c.Releads = nil
	c.Items = append(c.Items, api.Item{ID: 80, Kind: api.ItemKept, Piece: 3}, api.Item{ID: 90, Kind: api.ItemRubbing, Sights: []api.Sight{{Pane: 1, At: span(3, 5), Count: only(1)}, {Pane: 1, At: span(5, 16), Count: only(0)}}})
	c.Items[0].Film, c.Items[0].Sights = 5, []api.Sight{{Pane: 1, Grey: span(0, 255)}, {Pane: 2}}
	one := func(id int, panes []int, count api.Span, hits ...[]bool) api.Rule {
		return api.Rule{Item: id, Kind: api.RuleCount, Panes: panes, Count: count, Hits: hits}
	}
	// The options of pane 1 are the piece 1, the piece 3, and the colours 1 and 2; those of pane 2 are the colours.
	lost := []bool{false, false}
	both := []int{0, 1}
	for id, want := range map[int][]api.Rule{
		10: {one(10, both[:1], only(1), []bool{true, false, true, false}), one(10, both[1:], only(1), []bool{true, false})},
		20: {one(20, both[1:], only(1), []bool{true, true}), one(20, both[:1], only(1), []bool{true, true, true, true})},
		30: {one(30, both, span(1, 64), []bool{true, false, true, false}, []bool{true, false})},
		40: {one(40, both[1:], only(1), lost)},
		50: {{Item: 50, Kind: api.RulePair, Panes: []int{1, 0}, OK: [][]bool{{true, true, true, true}, {true, true, true, true}}}},
		60: {one(60, both[:1], span(0, 1), []bool{true, true, false, false})},
		70: {one(70, both, only(0), []bool{false, false, false, false}, lost)},
		80: {one(80, both, only(0), []bool{false, true, false, false}, lost)},
		90: {one(90, both[:1], only(1), []bool{true, false, true, true}), one(90, both[:1], only(1), []bool{true, true, true, true})},
	} {
		if l, e := evidence.Rules(c, id, 1500); !slices.EqualFunc(l, want, sameRule) || e != api.OK {
			t.Error(id, l, e)
		}
	}
}

// paintCase is the case of two equal squares with a lead between them, of which each can be filled with either piece.
func paintCase(slack int, left, right []api.Mark) api.Case {
	square := []api.Gauge{{Edge: only(4), Across: only(8)}, {Edge: only(4), Across: only(8)}, {Edge: only(4), Across: only(8)}, {Edge: only(4), Across: only(8)}}
	c := api.Case{Web: lattice(2, 1), Palette: 1, Items: []api.Item{{ID: 1, Kind: api.ItemPaint, Lead: 4, Slack: slack}}}
	for k, marks := range [][]api.Mark{left, right} {
		c.Pieces = append(c.Pieces, api.Piece{ID: k + 1, Colour: 1, Reverse: 1, Gauges: square, Marks: marks})
	}
	return c
}

// TestPaint has marks that run on, and such that do not, across the lead 4, which runs upwards: the edge 1 of pane 1, and the edge 3 of pane 2.
func TestPaint(t *testing.T) {
	for name, x := range map[string]struct {
		slack       int
		left, right []api.Mark
		want        bool
	}{
		"run on":      {0, []api.Mark{mark(1, 4, 1)}, []api.Mark{mark(3, 12, 1)}, true},
		"off":         {0, []api.Mark{mark(1, 4, 1)}, []api.Mark{mark(3, 11, 1)}, false},
		"slack":       {1, []api.Mark{mark(1, 4, 1)}, []api.Mark{mark(3, 11, 1)}, true},
		"slack, more": {1, []api.Mark{mark(1, 4, 1)}, []api.Mark{mark(3, 14, 1)}, false},
		"tones":       {16, []api.Mark{mark(1, 4, 1)}, []api.Mark{mark(3, 12, 2)}, false},
		"one side":    {16, []api.Mark{mark(1, 4, 1)}, nil, false},
		"other side":  {16, nil, []api.Mark{mark(3, 12, 1)}, false},
		"no marks":    {0, nil, nil, true},
		"elsewhere":   {0, []api.Mark{mark(0, 4, 1)}, []api.Mark{mark(1, 12, 1)}, true},
		"two":         {0, []api.Mark{mark(1, 4, 1), mark(1, 6, 1)}, []api.Mark{mark(3, 10, 1), mark(3, 12, 1)}, true},
		"two and one": {16, []api.Mark{mark(1, 4, 1), mark(1, 6, 1)}, []api.Mark{mark(3, 10, 1)}, false},
	} {
		c := paintCase(x.slack, x.left, x.right)
		if a, edge, b, other, e := evidence.Whole(c, 4); a != 1 || edge != 1 || b != 2 || other != 3 || e != api.OK {
			t.Fatal("Whole", a, edge, b, other, e)
		}
		l, e := evidence.Rules(c, 1, 0)
		if e != api.OK || len(l) != 1 || !slices.Equal(l[0].Panes, []int{0, 1}) || len(l[0].OK) != 17 || len(l[0].OK[16]) != 17 {
			t.Fatal(name, l, e)
		}
		// The option 0 is the piece 1 in the setting {0, false}, and the option 8 is the piece 2 so; 16 is new glass.
		if l[0].OK[0][8] != x.want || !l[0].OK[0][16] || !l[0].OK[16][8] || !l[0].OK[16][16] {
			t.Error(name, l[0].OK[0][8])
		}
		ok, e := evidence.Obeys(c, 1, 0, []api.Option{glazed(1, 1), glazed(2, 1)})
		if ok != x.want || e != api.OK {
			t.Error("Obeys", name, ok, e)
		}
	}
}

// TestPaintSides has leads that run either way: the first pane of the rule is the one on the left.
func TestPaintSides(t *testing.T) {
	c := paintCase(0, nil, nil)
	l := &c.Web.Leads[3]
	l.A, l.B = l.B, l.A
	r, e := evidence.Rules(c, 1, 0)
	if e != api.OK || len(r) != 1 || !slices.Equal(r[0].Panes, []int{1, 0}) {
		t.Error(r, e)
	}
}

// TestRules compares E15 to E17 and E20 with their rules, and is P6.4.
func TestRules(t *testing.T) {
	d := rand.New(rand.NewSource(64))
	count := map[bool]int{}
	large := 0
	for _, s := range samples() {
		for _, year := range []int{0, 3, 6, 9999} {
			options := s.allOptions(year)
			some := fillings(d, options, 40)
			var all []api.Rule
			for _, x := range s.Items {
				want := s.rules(x, year)
				got, e := evidence.Rules(s.Case, x.ID, year)
				if !slices.EqualFunc(got, want, sameRule) || e != api.OK {
					t.Fatal("Rules", s, x, year, got, e)
				}
				all = append(all, want...)
				for _, f := range some {
					l := choose(options, f)
					obeys, e := evidence.Obeys(s.Case, x.ID, year, l)
					if obeys != s.obeys(x, l) || e != api.OK {
						t.Fatal("Obeys", s, x, year, l, obeys, e)
					}
					if breaksOne(got, f) != (s.silencer(x, year) < 0 && !obeys) {
						t.Fatal("breaks", s, x, year, l)
					}
					count[obeys]++
				}
			}
			large += s.checkProblem(t, year, options, all)
		}
	}
	if count[true] < 5000 || count[false] < 5000 || large < 20 {
		t.Error("few", count, large)
	}
}

// checkProblem checks the space and the problem of a year, and returns 1 if it is too large.
func (s sample) checkProblem(t *testing.T, year int, options [][]api.Option, rules []api.Rule) int {
	t.Helper()
	want := api.Problem{Options: options, Rules: rules}
	space := 1
	for i, l := range options {
		want.Panes = append(want.Panes, i+1)
		space *= len(l)
	}
	n, e1 := evidence.Space(s.Case, year)
	p, e2 := evidence.Compile(s.Case, year)
	if space > 65536 {
		if n != 0 || !sameProblem(p, api.Problem{}) || e1 != api.ErrLimit || e2 != api.ErrLimit {
			t.Fatal("large", s, year, n, p, e1, e2)
		}
		return 1
	}
	if n != space || !sameProblem(p, want) || e1 != api.OK || e2 != api.OK {
		t.Fatal(s, year, n, p, e1, e2)
	}
	return 0
}

// TestFillings compares E18 and E19 with their rules, and is P6.6.
func TestFillings(t *testing.T) {
	d := rand.New(rand.NewSource(66))
	for _, s := range samples() {
		for _, year := range []int{0, 5, 9999} {
			options := s.allOptions(year)
			for k, f := range fillings(d, options, 20) {
				l := choose(options, f)
				indices, e1 := evidence.Filling(s.Case, year, l)
				chosen, e2 := evidence.Chosen(s.Case, year, f)
				if !slices.Equal(indices, f) || !slices.Equal(chosen, l) || e1 != api.OK || e2 != api.OK {
					t.Fatal(s, year, f, indices, chosen, e1, e2)
				}
				if k == 0 {
					i := d.Intn(len(f))
					s.checkNoFilling(t, year, f, l, i, len(options[i]))
				}
			}
		}
	}
}

// checkNoFilling checks what is no filling as the pane with the index i has no such option.
func (s sample) checkNoFilling(t *testing.T, year int, f []int, l []api.Option, i, n int) {
	t.Helper()
	f, l = slices.Clone(f), slices.Clone(l)
	for _, wrong := range append(extremes(), -1, n) {
		f[i] = wrong
		if chosen, e := evidence.Chosen(s.Case, year, f); len(chosen) > 0 || e != api.ErrNone {
			t.Fatal("index", s, year, f, chosen, e)
		}
	}
	wrong := l[i]
	wrong.Colour += 16
	for _, l[i] = range []api.Option{wrong, {}, glazed(999, 1)} {
		if indices, e := evidence.Filling(s.Case, year, l); len(indices) > 0 || e != api.ErrNone {
			t.Fatal("option", s, year, l, indices, e)
		}
		for _, x := range s.Items {
			if is, e := evidence.Obeys(s.Case, x.ID, year, l); is || e != api.ErrNone {
				t.Fatal("Obeys", s, x, year, l, is, e)
			}
		}
	}
}

// TestMoreItems is P6.5 and P0.5: more items add no filling that breaks no rule, more releadings take none away, and an item that is silent says nothing.
func TestMoreItems(t *testing.T) {
	d := rand.New(rand.NewSource(65))
	var fewer, more, silent int
	for _, s := range samples() {
		larger, releaded := newSample(s.Case), newSample(s.Case)
		id := 1
		if n := len(s.Items); n > 0 {
			id = s.Items[n-1].ID + 1
		}
		x, ok := s.thrownItem(d, id, 1+d.Intn(7))
		if !ok {
			continue
		}
		larger.Items = append(slices.Clone(s.Items), x)
		releaded.Releads = append(slices.Clone(s.Releads), relead(thrownYear(d), part(d, len(s.panes))...))
		for _, year := range []int{0, 5, 9999} {
			p, e1 := evidence.Compile(s.Case, year)
			q, e2 := evidence.Compile(larger.Case, year)
			r, e3 := evidence.Compile(releaded.Case, year)
			if e1 != e2 || e1 != e3 {
				t.Fatal(s, e1, e2, e3)
			}
			if e1 != api.OK {
				continue
			}
			if larger.silencer(x, year) >= 0 {
				silent++
				if !sameProblem(p, q) {
					t.Fatal("silent", larger, x, year)
				}
			}
			for _, f := range fillings(d, p.Options, 40) {
				given, withItem, withRelead := breaksOne(p.Rules, f), breaksOne(q.Rules, f), breaksOne(r.Rules, f)
				if given && !withItem || !given && withRelead {
					t.Fatal(s, x, year, f)
				}
				if given != withItem {
					fewer++
				}
				if given != withRelead {
					more++
				}
			}
		}
	}
	if fewer < 1000 || more < 100 || silent < 20 {
		t.Error("few", fewer, more, silent)
	}
}

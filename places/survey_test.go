package places_test

import (
	"math"
	"math/rand"
	"slices"
	"testing"

	"leadlight/api"
	"leadlight/places"
)

// branch, leaf, agree, and twice are nodes.
func branch(pane int, kids ...api.Node) api.Node {
	return api.Node{Kind: api.NodeBranch, Index: pane, Kids: kids}
}

func rule(index int) api.Node  { return api.Node{Kind: api.NodeRule, Index: index} }
func twice(index int) api.Node { return api.Node{Kind: api.NodeTwice, Index: index} }
func agree() api.Node          { return api.Node{Kind: api.NodeAgree} }

// leaves returns all nodes but branches that are lawful for some options of the first panes, in the order of G18.
func (s sample) leaves(c []int) []api.Node {
	var out []api.Node
	last := len(c) - 1
	for k := range max(last, 0) {
		if piece := s.Options[k][c[k]].Piece; piece > 0 && piece == s.Options[last][c[last]].Piece {
			out = append(out, twice(k))
		}
	}
	for i, r := range s.Rules {
		if !slices.ContainsFunc(s.fillings(c...), func(f []int) bool { return s.keeps(r, f) }) {
			out = append(out, rule(i))
		}
	}
	if len(c) == len(s.Panes) && s.agrees(c) {
		out = append(out, agree())
	}
	return out
}

// survey returns the survey in which a function chooses among the lawful leaves. It may choose none of them, if a rule is broken: that rule is still broken further on.
func (s sample) survey(c []int, choose func(leaves []api.Node) (api.Node, bool)) api.Node {
	if leaves := s.leaves(c); len(leaves) > 0 {
		n, ok := choose(leaves)
		if ok || len(c) == len(s.Panes) || leaves[len(leaves)-1].Kind != api.NodeRule {
			return n
		}
	}
	n := branch(len(c))
	for k := range s.Options[len(c)] {
		n.Kids = append(n.Kids, s.survey(append(slices.Clone(c), k), choose))
	}
	return n
}

// lawful reports whether a node is lawful for some options of the first panes.
func (s sample) lawful(n api.Node, c []int) bool {
	if n.Kind != api.NodeBranch {
		return slices.ContainsFunc(s.leaves(c), func(m api.Node) bool { return sameNode(n, m) })
	}
	if n.Index != len(c) || len(c) == len(s.Panes) || len(n.Kids) != len(s.Options[len(c)]) {
		return false
	}
	for k, kid := range n.Kids {
		if !s.lawful(kid, append(slices.Clone(c), k)) {
			return false
		}
	}
	return true
}

// TestSurveyExamples is the survey of the chapter's example, and of problems without panes (G18, G19).
func TestSurveyExamples(t *testing.T) {
	p := example()
	whole := branch(0, branch(1, twice(0), agree(), rule(0)), branch(1, rule(1), twice(0), rule(0)), rule(0))
	if n, e := places.Survey(p); !sameNode(n, whole) || e != api.OK {
		t.Error(n, e)
	}
	if count, possible, e := places.Check(p, whole); count != 1 || !sameBools(possible, [][]bool{{true, false, false}, {false, true, false}}) || e != api.OK {
		t.Error(count, possible, e)
	}
	if n, e := places.Survey(with(p, never())); !sameNode(n, rule(2)) || e != api.OK {
		t.Error("never", n, e)
	}
	if count, possible, e := places.Check(with(p, never()), rule(2)); count != 0 || !sameBools(possible, [][]bool{make([]bool, 3), make([]bool, 3)}) || e != api.OK {
		t.Error("never", count, possible, e)
	}
	if n, e := places.Survey(api.Problem{}); !sameNode(n, agree()) || e != api.OK {
		t.Error("nothing", n, e)
	}
	if count, possible, e := places.Check(api.Problem{}, agree()); count != 1 || len(possible) > 0 || e != api.OK {
		t.Error("nothing", count, possible, e)
	}
	late := with(p, never())
	late.Rules[0], late.Rules[2] = late.Rules[2], late.Rules[0]
	late.Rules[0].Item, late.Rules[2].Item = 3, 5
	full := branch(0, rule(0), branch(1, twice(0), rule(1), twice(0)), rule(2))
	full.Kids[1].Kids = []api.Node{rule(1), twice(0), rule(2)}
	if count, _, e := places.Check(late, full); count != 0 || e != api.OK {
		t.Error("branches although a rule is broken", count, e)
	}
}

// TestNotLawful checks nodes that are not lawful (G19).
func TestNotLawful(t *testing.T) {
	p := example()
	first := branch(1, twice(0), agree(), rule(0))
	second := branch(1, rule(1), twice(0), rule(0))
	kids := []api.Node{rule(0)}
	for name, n := range map[string]api.Node{
		"no kind":              {},
		"kind -1":              {Kind: -1},
		"kind 5":               {Kind: 5},
		"kind 5 with kids":     {Kind: 5, Kids: []api.Node{first, second, rule(0)}},
		"agree at the root":    agree(),
		"twice at the root":    twice(0),
		"twice at -1":          twice(-1),
		"rule at the root":     rule(0),
		"rule 2":               rule(2),
		"rule -1":              rule(-1),
		"rule too great":       rule(math.MaxInt),
		"rule too small":       rule(math.MinInt),
		"no kids":              branch(0),
		"few kids":             branch(0, first, second),
		"many kids":            branch(0, first, second, rule(0), rule(0)),
		"pane 1":               branch(1, first, second, rule(0)),
		"pane -1":              branch(-1, first, second, rule(0)),
		"pane 0 again":         branch(0, branch(0, first.Kids...), second, rule(0)),
		"a pane too many":      branch(0, branch(1, twice(0), branch(2), rule(0)), second, rule(0)),
		"twice too early":      branch(0, twice(0), second, rule(0)),
		"twice itself":         branch(0, branch(1, twice(1), agree(), rule(0)), second, rule(0)),
		"twice -1":             branch(0, branch(1, twice(-1), agree(), rule(0)), second, rule(0)),
		"twice far":            branch(0, branch(1, twice(math.MaxInt), agree(), rule(0)), second, rule(0)),
		"not twice":            branch(0, branch(1, twice(0), twice(0), rule(0)), second, rule(0)),
		"new glass twice":      branch(0, first, second, branch(1, rule(0), rule(0), twice(0))),
		"agree but not sound":  branch(0, branch(1, agree(), agree(), rule(0)), second, rule(0)),
		"agree but broken":     branch(0, branch(1, twice(0), agree(), agree()), second, rule(0)),
		"agree with index":     branch(0, branch(1, twice(0), api.Node{Kind: api.NodeAgree, Index: 1}, rule(0)), second, rule(0)),
		"agree with kids":      branch(0, branch(1, twice(0), api.Node{Kind: api.NodeAgree, Kids: kids}, rule(0)), second, rule(0)),
		"twice with kids":      branch(0, branch(1, api.Node{Kind: api.NodeTwice, Kids: kids}, agree(), rule(0)), second, rule(0)),
		"rule with kids":       branch(0, first, second, api.Node{Kind: api.NodeRule, Kids: kids}),
		"rule kept":            branch(0, branch(1, twice(0), rule(0), rule(0)), second, rule(0)),
		"other rule":           branch(0, first, second, rule(1)),
		"rule kept by unsound": branch(0, first, rule(1), rule(0)),
		"agree too early":      branch(0, agree(), second, rule(0)),
	} {
		if count, possible, e := places.Check(p, n); count != 0 || len(possible) > 0 || e != api.ErrSurvey {
			t.Error(name, count, possible, e)
		}
	}
	empty := branch(0, branch(1, api.Node{Kind: api.NodeTwice, Kids: []api.Node{}}, agree(), rule(0)), second, rule(0))
	if count, _, e := places.Check(p, empty); count != 1 || e != api.OK {
		t.Error("empty kids", count, e)
	}
	for _, n := range []api.Node{branch(0), branch(-1), {}, twice(0), twice(-2), rule(0), {Kind: api.NodeAgree, Index: 1}} {
		if _, _, e := places.Check(api.Problem{}, n); e != api.ErrSurvey {
			t.Error("nothing", n, e)
		}
	}
}

// TestTwice checks that NodeTwice is lawful only where the last pane has the piece again, and that the first such pane is told (G18).
func TestTwice(t *testing.T) {
	l := []api.Option{glazed(5, 1)}
	p := api.Problem{Panes: []int{1, 2, 3, 4}, Options: [][]api.Option{{glazed(6, 1)}, l, l, {glazed(5, 1), glazed(6, 1), glazed(7, 1)}}}
	if n, e := places.Survey(p); !sameNode(n, branch(0, branch(1, branch(2, twice(1))))) || e != api.OK {
		t.Error(n, e)
	}
	deep := func(a, b, c api.Node) api.Node { return branch(0, branch(1, branch(2, branch(3, a, b, c)))) }
	for _, n := range []api.Node{deep(twice(1), twice(0), twice(1)), deep(twice(1), twice(0), agree()), deep(twice(0), twice(0), rule(0))} {
		if _, _, e := places.Check(p, n); e != api.ErrSurvey {
			t.Error(n, e)
		}
	}
	p.Options[3] = p.Options[3][:2]
	for _, k := range []int{1, 2} {
		if count, _, e := places.Check(p, branch(0, branch(1, branch(2, branch(3, twice(k), twice(0)))))); count != 0 || e != api.OK {
			t.Error(k, count, e)
		}
	}
}

// TestSurveys compares G18 with its rule, and is P7.6 for what Survey returns.
func TestSurveys(t *testing.T) {
	for _, s := range samples(t) {
		want := s.survey(nil, func(leaves []api.Node) (api.Node, bool) { return leaves[0], true })
		got, e := places.Survey(s.Problem)
		if !sameNode(got, want) || e != api.OK {
			t.Fatal(s, got, e, want)
		}
		s.checkProof(t, got)
	}
}

// checkProof checks that a lawful survey proves what is so.
func (s sample) checkProof(t *testing.T, n api.Node) {
	t.Helper()
	count, possible, e := places.Check(s.Problem, n)
	wantCount, _ := places.Count(s.Problem)
	wantPossible, _ := places.Possible(s.Problem)
	if count != wantCount || !sameBools(possible, wantPossible) || e != api.OK {
		t.Fatal(s, n, count, possible, e)
	}
}

// TestThrownSurveys is P7.6 for surveys that others make: those that are lawful are accepted, and tell the same; all others are not.
func TestThrownSurveys(t *testing.T) {
	d := rand.New(rand.NewSource(76))
	lawful, wrong := 0, 0
	for _, s := range samples(t) {
		for range 2 {
			n := s.survey(nil, func(leaves []api.Node) (api.Node, bool) { return leaves[d.Intn(len(leaves))], d.Intn(3) > 0 })
			s.checkProof(t, n)
			for range 4 {
				m := changed(d, n)
				if s.lawful(m, nil) {
					s.checkProof(t, m)
					lawful++
					continue
				}
				if count, possible, e := places.Check(s.Problem, m); count != 0 || len(possible) > 0 || e != api.ErrSurvey {
					t.Fatal(s, m, count, possible, e)
				}
				wrong++
			}
		}
	}
	if lawful < 200 || wrong < 2000 {
		t.Error("few", lawful, wrong)
	}
}

// changed returns a survey that is changed somewhere.
func changed(d *rand.Rand, n api.Node) api.Node {
	n.Kids = slices.Clone(n.Kids)
	if k := len(n.Kids); k > 0 && d.Intn(8) > 0 {
		at := d.Intn(k)
		n.Kids[at] = changed(d, n.Kids[at])
		return n
	}
	switch d.Intn(6) {
	case 0:
		n.Kind = d.Intn(6)
	case 1:
		n.Kids = append(n.Kids, agree())
	case 2:
		n.Kids = n.Kids[:len(n.Kids)/2]
	case 3:
		return api.Node{Kind: d.Intn(4) + 1, Index: d.Intn(3)}
	default:
		n.Index += d.Intn(5) - 2
	}
	return n
}

// TestMostNodes checks surveys of just MaxNodes nodes, and of one more (G18, G19).
func TestMostNodes(t *testing.T) {
	most := plain(1, 246, 203, 1, 1, 1)
	n, e := places.Survey(most)
	if size(n) != api.MaxNodes || e != api.OK {
		t.Fatal(size(n), e)
	}
	if count, _, e := places.Check(most, n); count != 246*203 || e != api.OK {
		t.Error(count, e)
	}
	more := plain(250, 47, 4, 1, 1, 1)
	if n, e := places.Survey(more); !sameNode(n, api.Node{}) || e != api.ErrLimit {
		t.Error(size(n), e)
	}
	full := sample{more}.survey(nil, func(leaves []api.Node) (api.Node, bool) { return leaves[0], true })
	if size(full) != api.MaxNodes+1 {
		t.Fatal(size(full))
	}
	if count, possible, e := places.Check(more, full); count != 0 || len(possible) > 0 || e != api.ErrSurvey {
		t.Error(count, possible, e)
	}
	if n, e := places.Survey(wide()); !sameNode(n, api.Node{}) || e != api.ErrLimit {
		t.Error("wide", size(n), e)
	}
	never := with(most, counts(1, only(1), nil))
	if n, e := places.Survey(never); !sameNode(n, rule(0)) || e != api.OK {
		t.Error("never", size(n), e)
	}
}

// size returns the number of nodes of a survey.
func size(n api.Node) int {
	out := 1
	for _, kid := range n.Kids {
		out += size(kid)
	}
	return out
}

package plans_test

import (
	"maps"
	"math"
	"math/rand"
	"reflect"
	"slices"
	"testing"

	"leadlight/api"
	"leadlight/evidence"
	"leadlight/glass"
	"leadlight/leading"
	"leadlight/plans"
	"leadlight/web"
)

// spot is what is chosen, lifted and kept at a node of a proof.
type spot struct {
	known
	problem      api.Problem
	cost         int
	chosen       chosen
	lifted, kept map[int]bool
}

// root returns the spot at the root of a proof of a number.
func (k known) root(cost int) spot {
	p, _ := evidence.Compile(k.Case, k.Year)
	return spot{k, p, cost, chosen{}, map[int]bool{}, map[int]bool{}}
}

// choose, lift and keep return the spots of kids.
func (s spot) choose(pane int, o api.Option) spot {
	s.chosen = maps.Clone(s.chosen)
	s.chosen[pane] = o
	return s
}

func (s spot) lift(pane int) spot {
	s.lifted = maps.Clone(s.lifted)
	s.lifted[pane] = true
	return s
}

func (s spot) keep(pane int) spot {
	s.kept = maps.Clone(s.kept)
	s.kept[pane] = true
	return s
}

// isPane reports whether there is a pane with an ID.
func (s spot) isPane(id int) bool { return 1 <= id && id <= len(s.panes) }

// touched returns the panes that are lifted or changed, increasing.
func (s spot) touched() []int {
	var out []int
	for pane := 1; pane <= len(s.panes); pane++ {
		o, is := s.chosen[pane]
		if s.lifted[pane] || is && s.wantChange(pane, o) != 0 {
			out = append(out, pane)
		}
	}
	return out
}

// isBroken reports whether a rule is broken whatever options the panes that are not chosen have, by trying all of them.
func (s spot) isBroken(r api.Rule) bool {
	fillings := [][]int{nil}
	for _, i := range r.Panes {
		var longer [][]int
		for at, o := range s.options[i] {
			if p, is := s.chosen[i+1]; is && p != o {
				continue
			}
			for _, f := range fillings {
				longer = append(longer, append(slices.Clone(f), at))
			}
		}
		fillings = longer
	}
	return !slices.ContainsFunc(fillings, func(f []int) bool {
		if r.Kind == api.RulePair {
			return r.OK[f[0]][f[1]]
		}
		hits := 0
		for k, at := range f {
			if r.Hits[k][at] {
				hits++
			}
		}
		return r.Count.Lo <= hits && hits <= r.Count.Hi
	})
}

// isStuck reports whether a touched pane is in no feasible set without the kept panes.
func (s spot) isStuck(pane int) bool {
	return slices.Contains(s.touched(), pane) && !slices.ContainsFunc(s.sets, func(set []int) bool {
		return slices.Contains(set, pane) && !slices.ContainsFunc(set, func(id int) bool { return s.kept[id] })
	})
}

// spent returns what the chosen options and the touched panes cost.
func (s spot) spent() int {
	sum := s.wantLeads(s.touched())
	for pane, o := range s.chosen {
		sum += []int{0, s.Turn, s.Move, s.New}[s.wantChange(pane, o)]
	}
	return sum
}

// wantLeaf reports whether a leaf is right.
func (s spot) wantLeaf(p api.Proof) bool {
	if len(p.Kids) > 0 || p.Kind != api.ProofLoop && !isZero(p.Loop) || p.Kind != api.ProofRule && p.Kind != api.ProofStuck && p.Index != 0 {
		return false
	}
	switch p.Kind {
	case 3:
		return twice(s.chosen)
	case 4:
		return 0 <= p.Index && p.Index < len(s.problem.Rules) && s.isBroken(s.problem.Rules[p.Index])
	case 5:
		is, _ := leading.ValidLoop(s.panel, s.wantNeeds(s.chosen), p.Loop)
		return is
	case 6:
		_, can := s.wantCutting(s.chosen)
		return !can
	case 7:
		return s.isStuck(p.Index)
	case 8:
		return s.spent() >= s.cost
	}
	return false
}

// isZero reports whether a loop is zero.
func isZero(l api.Loop) bool { return l.Axis == 0 && len(l.Bounds) == 0 }

// wantProof is rule J19: it returns the number of leaves of a proof, or -1 if it is none.
func (s spot) wantProof(p api.Proof) int {
	var kids []spot
	switch p.Kind {
	case 1:
		if _, is := s.chosen[p.Index+1]; is || p.Index < 0 || p.Index >= len(s.panes) {
			return -1
		}
		for _, o := range s.options[p.Index] {
			kids = append(kids, s.choose(p.Index+1, o))
		}
	case 2:
		if !s.isPane(p.Index) || s.lifted[p.Index] || s.kept[p.Index] {
			return -1
		}
		kids = []spot{s.lift(p.Index), s.keep(p.Index)}
	default:
		if s.wantLeaf(p) {
			return 1
		}
		return -1
	}
	if len(kids) != len(p.Kids) || !isZero(p.Loop) {
		return -1
	}
	sum := 0
	for k, kid := range kids {
		n := kid.wantProof(p.Kids[k])
		if n < 0 {
			return -1
		}
		sum += n
	}
	return sum
}

// leaves returns all leaves that are right at a spot (of loops one at most).
func (s spot) leaves() []api.Proof {
	var out []api.Proof
	some := []api.Proof{{Kind: 3}, {Kind: 6}, {Kind: 8}}
	for k := range s.problem.Rules {
		some = append(some, api.Proof{Kind: 4, Index: k})
	}
	for pane := range len(s.panes) {
		some = append(some, api.Proof{Kind: 7, Index: pane + 1})
	}
	if l, e := leading.FindLoop(s.panel, s.wantNeeds(s.chosen)); e == api.OK {
		some = append(some, api.Proof{Kind: 5, Loop: l})
	}
	for _, p := range some {
		if s.wantLeaf(p) {
			out = append(out, p)
		}
	}
	return out
}

// thrownProof throws a proof as somebody else could make it.
func (s spot) thrownProof(d *rand.Rand) api.Proof {
	if l := s.leaves(); len(l) > 0 && d.Intn(20) > 0 {
		return l[d.Intn(len(l))]
	}
	var pane []int
	for id := 1; id <= len(s.panes); id++ {
		if _, is := s.chosen[id]; !is {
			pane = append(pane, id)
		}
		if !s.lifted[id] && !s.kept[id] {
			pane = append(pane, -id)
		}
	}
	if len(pane) == 0 {
		// All is said, so only a leaf is left.
		return s.leaves()[0]
	}
	id := pane[d.Intn(len(pane))]
	if id < 0 {
		return api.Proof{Kind: 2, Index: -id, Kids: []api.Proof{s.lift(-id).thrownProof(d), s.keep(-id).thrownProof(d)}}
	}
	p := api.Proof{Kind: 1, Index: id - 1}
	for _, o := range s.options[id-1] {
		p.Kids = append(p.Kids, s.choose(id, o).thrownProof(d))
	}
	return p
}

// cloned returns a copy of a proof.
func cloned(p api.Proof) api.Proof {
	p.Loop.Bounds = slices.Clone(p.Loop.Bounds)
	p.Kids = slices.Clone(p.Kids)
	for k := range p.Kids {
		p.Kids[k] = cloned(p.Kids[k])
	}
	return p
}

// changedProof returns a proof in which a node is changed.
func changedProof(d *rand.Rand, p api.Proof) api.Proof {
	p = cloned(p)
	n := &p
	for len(n.Kids) > 0 && d.Intn(4) > 0 {
		n = &n.Kids[d.Intn(len(n.Kids))]
	}
	switch d.Intn(9) {
	case 0:
		n.Kind = d.Intn(10)
	case 1:
		n.Index += 1 - 2*d.Intn(2)
	case 2:
		n.Index = append(extremes(), -1, 0, 1, 2)[d.Intn(8)]
	case 3:
		*n = api.Proof{Kind: 3 + d.Intn(6), Index: d.Intn(2)}
	case 4:
		n.Kids = append(n.Kids, api.Proof{Kind: api.ProofCost})
	case 5:
		n.Loop = api.Loop{Axis: d.Intn(3), Bounds: slices.Repeat([]api.Bound{{To: 1}}, d.Intn(2))}
	case 6:
		if len(n.Kids) > 0 {
			n.Kids = n.Kids[1:]
		}
	case 7:
		if len(n.Kids) > 1 {
			n.Kids[0], n.Kids[1] = n.Kids[1], n.Kids[0]
		}
	case 8:
		if len(n.Loop.Bounds) > 0 {
			n.Loop.Bounds[0].Most += 1 - 2*d.Intn(2)
		}
	}
	return p
}

// countNodes counts the nodes of a proof.
func countNodes(p api.Proof) int {
	n := 1
	for _, kid := range p.Kids {
		n += countNodes(kid)
	}
	return n
}

// small are the samples of which others can make proofs in a short time.
func small() []int {
	var out []int
	for i, k := range samples() {
		n := 1 << len(k.panes)
		for _, l := range k.options {
			n *= len(l)
		}
		if n <= 600 {
			out = append(out, i)
		}
	}
	return out
}

// TestProve is the last part of P8.4: CheckProof accepts what Prove returns, for the cost of the cheapest plan, and for no greater number if there is one.
func TestProve(t *testing.T) {
	for i, k := range samples() {
		want := plansOf()[i].cost
		if plansOf()[i].e != api.OK {
			want = api.NoPlan
		}
		p, cost, e := plans.Prove(k.Job)
		if cost != want || e != api.OK {
			t.Error("Prove", k.Job, cost, want, e)
			continue
		}
		leaves := k.root(cost).wantProof(p)
		if e, n := plans.CheckProof(k.Job, cost, p); e != api.OK || n != leaves {
			t.Error("CheckProof", k.Job, cost, e, n, leaves)
		}
		if n := plans.Nodes(p); n != countNodes(p) || n < leaves {
			t.Error("Nodes", k.Job, n)
		}
		for _, less := range []int{cost - 1, 0, -1, math.MinInt} {
			if e, n := plans.CheckProof(k.Job, less, p); e != api.OK || n != leaves {
				t.Error("a lesser number", k.Job, less, e, n)
			}
		}
		for _, more := range []int{cost + 1, math.MaxInt} {
			e, n := plans.CheckProof(k.Job, more, p)
			if cost < api.NoPlan && (e != api.ErrProof || n != 0) || cost == api.NoPlan && (e != api.OK || n != leaves) {
				t.Error("a greater number", k.Job, more, e, n)
			}
		}
	}
}

// TestCheckProof is P8.4 and checks J19: it accepts just the right proofs, whoever made them, and none for more than the cheapest plan costs.
func TestCheckProof(t *testing.T) {
	d := rand.New(rand.NewSource(4))
	kinds, wrong := [9]int{}, 0
	var count func(p api.Proof)
	count = func(p api.Proof) {
		kinds[p.Kind]++
		for _, kid := range p.Kids {
			count(kid)
		}
	}
	for _, i := range small() {
		k, cost := samples()[i], plansOf()[i].cost
		if plansOf()[i].e != api.OK {
			cost = api.NoPlan
		}
		for _, number := range []int{cost, min(cost, 20) * 3 / 4} {
			s := k.root(number)
			p := s.thrownProof(d)
			count(p)
			if e, n := plans.CheckProof(k.Job, number, p); e != api.OK || n != s.wantProof(p) {
				t.Error("CheckProof", k.Job, number, p, e, n)
			}
			for range 6 {
				changed := changedProof(d, p)
				e, n := plans.CheckProof(k.Job, number, changed)
				leaves := s.wantProof(changed)
				if leaves < 0 {
					wrong++
				}
				if leaves < 0 && (e != api.ErrProof || n != 0) || leaves >= 0 && (e != api.OK || n != leaves) {
					t.Error("a changed proof", k.Job, number, changed, e, n, leaves)
				}
			}
			if e, n := plans.CheckProof(k.Job, cost+1, p); cost < api.NoPlan && (e != api.ErrProof || n != 0) {
				t.Error("more than the cheapest plan costs", k.Job, cost+1, p, e, n)
			}
		}
	}
	if slices.Min(kinds[1:]) < 30 || wrong < 200 {
		t.Error("few kinds of nodes", kinds, wrong)
	}
}

// TestProofExamples checks each row of the table of proofs, in jobs in which just this one is right.
func TestProofExamples(t *testing.T) {
	leaf := func(kind, index int) api.Proof { return api.Proof{Kind: kind, Index: index} }
	branch := func(index int, kids ...api.Proof) api.Proof {
		return api.Proof{Kind: api.ProofBranch, Index: index, Kids: kids}
	}
	lift := func(pane int, kids ...api.Proof) api.Proof {
		return api.Proof{Kind: api.ProofLift, Index: pane, Kids: kids}
	}
	cost, rule, glass := leaf(api.ProofCost, 0), leaf(api.ProofRule, 0), leaf(api.ProofGlass, 0)
	looped := api.Proof{Kind: api.ProofCost, Loop: api.Loop{Axis: 1}}
	for _, x := range []struct {
		name   string
		j      api.Job
		cost   int
		p      api.Proof
		leaves int
	}{
		{"nothing costs less than nothing", example(), 0, cost, 1},
		{"something costs more", example(), 1, cost, 0},
		{"no node", example(), 0, api.Proof{}, 0},
		{"no such kind", example(), 0, leaf(9, 0), 0},
		{"a leaf with an index", example(), 0, leaf(api.ProofCost, 1), 0},
		{"a leaf with a kid", example(), 0, api.Proof{Kind: api.ProofCost, Kids: []api.Proof{cost}}, 0},
		{"a leaf with a loop", example(), 0, looped, 0},
		{"a branch with a loop", example(), 0, api.Proof{Kind: api.ProofBranch, Index: 1, Kids: []api.Proof{cost, cost}, Loop: looped.Loop}, 0},
		{"a lift with a loop", example(), 0, api.Proof{Kind: api.ProofLift, Index: 1, Kids: []api.Proof{cost, cost}, Loop: looped.Loop}, 0},
		{"a branch", example(), 0, branch(1, cost, cost), 2},
		{"a branch with a kid less", example(), 0, branch(1, cost), 0},
		{"a branch with a kid more", example(), 0, branch(1, cost, cost, cost), 0},
		{"a branch twice", example(), 0, branch(1, branch(1, cost, cost), cost), 0},
		{"a branch of another pane", example(), 0, branch(1, branch(0, cost, cost, cost), cost), 4},
		{"no such pane", example(), 0, branch(2, cost, cost), 0},
		{"a lift", example(), 0, lift(2, cost, cost), 2},
		{"a lift of a pane that is lifted", example(), 0, lift(2, lift(2, cost, cost), cost), 0},
		{"a lift of a pane that is kept", example(), 0, lift(2, cost, lift(2, cost, cost)), 0},
		{"a lift of another pane", example(), 0, lift(2, cost, lift(1, cost, cost)), 3},
		{"a lift of no pane", example(), 0, lift(0, cost, cost), 0},
		{"a lift with a kid", example(), 0, lift(2, cost), 0},
		{"glass", example(), api.NoPlan, branch(1, glass, glass), 2},
		{"glass that is not wanted", example(), api.NoPlan, branch(0, glass, glass, glass), 0},
		{"glass that is wanted", example(), api.NoPlan, branch(0, branch(1, glass, glass), glass, branch(1, glass, glass)), 5},
		{"a rule", planned(), api.NoPlan, branch(0, branch(1, glass, glass), rule, rule), 0},
		{"a rule, and glass", planned(), 62, branch(0, branch(1, lift(2, cost, leaf(api.ProofStuck, 1)), glass), rule, rule), 5},
		{"the price of a lift", planned(), 62, branch(0, lift(2, cost, leaf(api.ProofStuck, 1)), rule, rule), 4},
		{"a number too great", planned(), 63, branch(0, lift(2, cost, leaf(api.ProofStuck, 1)), rule, rule), 0},
		{"another pane is stuck", planned(), 62, branch(0, lift(2, cost, leaf(api.ProofStuck, 2)), rule, rule), 0},
		{"the kids of a lift exchanged", planned(), 62, branch(0, lift(2, leaf(api.ProofStuck, 1), cost), rule, rule), 0},
		{"no such rule", planned(), 62, branch(0, lift(2, cost, leaf(api.ProofStuck, 1)), rule, leaf(api.ProofRule, 1)), 0},
		{"a piece that is there once", planned(), 0, branch(0, leaf(api.ProofTwice, 0), cost, cost), 0},
		{"a piece of no pane", planned(), 0, leaf(api.ProofTwice, 0), 0},
	} {
		e, n := plans.CheckProof(x.j, x.cost, x.p)
		if x.leaves > 0 && (e != api.OK || n != x.leaves) || x.leaves == 0 && (e != api.ErrProof || n != 0) {
			t.Error(x.name, e, n)
		}
	}
}

// bush returns a proof of which each node has the same kids; so many levels of it have memory of their own, but there are far more nodes.
func bush(levels, kids int) api.Proof {
	p := api.Proof{Kind: api.ProofCost}
	for range levels {
		p = api.Proof{Kind: api.ProofBranch, Kids: slices.Repeat([]api.Proof{p}, kids)}
	}
	return p
}

// TestNodes checks J20 and the limit of J19.
func TestNodes(t *testing.T) {
	endless := api.Proof{Kind: api.ProofBranch, Kids: make([]api.Proof, 2)}
	endless.Kids[0], endless.Kids[1] = endless, endless
	chain := api.Proof{Kind: api.ProofCost}
	for range api.MaxNodes - 1 {
		chain = api.Proof{Kind: api.ProofBranch, Kids: []api.Proof{chain}}
	}
	for _, x := range []struct {
		name string
		p    api.Proof
		n    int
	}{
		{"one", api.Proof{}, 1}, {"three", bush(1, 2), 3}, {"fifteen", bush(3, 2), 15},
		{"all but one", bush(1, api.MaxNodes-2), api.MaxNodes - 1}, {"just enough", bush(1, api.MaxNodes-1), api.MaxNodes},
		{"one too many", bush(1, api.MaxNodes), api.MaxNodes + 1}, {"more", bush(1, api.MaxNodes+1), api.MaxNodes + 1},
		{"far too many", bush(60, 2), api.MaxNodes + 1}, {"many below many", bush(3, 100000), api.MaxNodes + 1},
		{"a long chain", chain, api.MaxNodes}, {"one longer", api.Proof{Kids: []api.Proof{chain}}, api.MaxNodes + 1},
		{"without an end", endless, api.MaxNodes + 1},
	} {
		if n := plans.Nodes(x.p); n != x.n {
			t.Error(x.name, n)
		}
		e, leaves := plans.CheckProof(example(), 0, x.p)
		if x.n > api.MaxNodes && e != api.ErrLimit || x.n <= api.MaxNodes && e != api.ErrProof || leaves != 0 {
			t.Error(x.name, e, leaves)
		}
	}
	if e, n := plans.CheckProof(found(), 0, api.Proof{Kind: api.ProofLift, Index: 1, Kids: []api.Proof{bush(0, 0), bush(0, 0)}}); e != api.OK || n != 2 {
		t.Error("CheckProof", e, n)
	}
	wrong := example()
	wrong.Year = -1
	if e, n := plans.CheckProof(wrong, 0, endless); e != api.ErrJob || n != 0 {
		t.Error("the error of Check comes first", e, n)
	}
}

// coloured returns a job of so many panes in a row with so many colours of new glass, some of which were found, and all of which there is.
func coloured(panes, colours int) api.Job {
	j := empty(panes)
	j.Case.Palette, j.Sheets = colours, nil
	for colour := range min(colours, 7) {
		j.Sheets = append(j.Sheets, api.Sheet{ID: colour + 1, Colour: colour + 1, W: 99, H: 99})
	}
	for pane := 2; pane <= panes; pane += 2 {
		j.Found = append(j.Found, heldGlass(pane, colours))
	}
	return j
}

// TestProveFinds checks that Prove finds a proof where J18 asks for one at least: in all jobs in which the number of fillings, times 2 to the power of the number of panes, is just small enough.
func TestProveFinds(t *testing.T) {
	g := api.Gauge{Edge: only(4), Across: only(8), Bend: 1}
	square := func(id int) api.Piece {
		return api.Piece{ID: id, Colour: 1, Reverse: 1, Gauges: []api.Gauge{g, g, g, g}}
	}
	pieces := coloured(2, 8)
	pieces.Case.Pieces = []api.Piece{square(1), square(2), square(3)}
	pieces.Found = []api.Held{heldPiece(1, 2)}
	single := coloured(1, 8)
	for id := range 31 {
		single.Case.Pieces = append(single.Case.Pieces, square(id+1))
	}
	wide := pieces
	wide.Case.Pieces = []api.Piece{square(1), square(2), square(3)}
	wide.Case.Pieces[0].Swell, wide.Case.Pieces[1].Swell = 9, 2
	shut := coloured(4, 4)
	shut.Open = nil
	bare := coloured(4, 4)
	bare.Sheets = bare.Sheets[:2]
	for name, j := range map[string]api.Job{
		"one pane": single, "two panes": pieces, "wide pieces": wide, "three panes": coloured(3, 8), "four panes": coloured(4, 4),
		"shut": shut, "bare": bare, "six panes": coloured(6, 2), "twelve panes": coloured(12, 1), "twelve empty panes": empty(12),
	} {
		n, e := evidence.Space(j.Case, j.Year)
		panes, _ := web.Panes(j.Case.Web)
		if n<<len(panes) > 4096 || e != api.OK {
			t.Error(name, n, e)
		}
		cost := costOf(j)
		p, number, e := plans.Prove(j)
		if number != cost || e != api.OK || plans.Nodes(p) > api.MaxNodes {
			t.Error(name, number, cost, e)
		}
		if e, k := plans.CheckProof(j, number, p); e != api.OK || k < 1 {
			t.Error(name, e, k)
		}
	}
}

// behind returns a job in which five square panes of different sizes were found with pieces that are turned as they cannot stay; one of the panes can be lifted only with one of four others.
func behind() api.Job {
	webs := knownWebs()
	w := webs[len(webs)-1]
	j := api.Job{Turn: 1, New: 1, Open: []int{1, 2, 3, 4}, Pins: []api.Pin{{Joint: 1}}, Sheets: sheets(7)}
	sides, right := []int{2}, 10
	for side := 3; side < 7; side++ {
		id := 10 * side
		corners := []api.Point{at(right, 0), at(right+side, 0), at(right+side, side), at(right, side)}
		for k, p := range corners {
			w.Joints = append(w.Joints, api.Joint{ID: id + k, At: p})
			w.Leads = append(w.Leads, api.Lead{ID: id + k, A: id + k, B: id + (k+1)%4, Left: 2, Right: 2, Give: 1, Cost: 10})
		}
		j.Open, j.Pins = append(j.Open, id), append(j.Pins, api.Pin{Joint: id})
		sides, right = append(sides, side), right+10
	}
	j.Case = api.Case{Web: w, Palette: 1}
	panes, _ := web.Panes(w)
	for _, pane := range panes {
		g, _ := glass.Gauges(pane.Outline)
		k := slices.Index(sides, pane.Outline[1].X-pane.Outline[0].X)
		if k < 0 || g[0] != g[2] || g[1] != g[3] {
			j.Found = append(j.Found, heldGlass(pane.ID, 1))
			continue
		}
		j.Case.Pieces = append(j.Case.Pieces, api.Piece{ID: len(j.Case.Pieces) + 1, Colour: 1, Reverse: 1, Gauges: g})
		j.Found = append(j.Found, api.Held{Pane: pane.ID, Piece: len(j.Case.Pieces), Setting: api.Setting{Shift: 9}})
	}
	return j
}

// TestProveLimit checks the ErrLimit of J18: here each of the 59049 fillings has to be told of, with four ways to lift its panes.
func TestProveLimit(t *testing.T) {
	j := behind()
	if n, e := evidence.Space(j.Case, j.Year); n != 59049 || e != api.OK {
		t.Fatal("Space", n, e)
	}
	if p, e := plans.Make(j); e != api.OK || p.Cost != 5+10*(4+3+16) || len(p.Set) != 6 {
		t.Error("Make", p, e)
	}
	if p, cost, e := plans.Prove(j); e != api.ErrLimit || cost != 0 || !reflect.DeepEqual(p, api.Proof{}) {
		t.Error("Prove", plans.Nodes(p), cost, e)
	}
}

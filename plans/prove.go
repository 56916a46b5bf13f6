package plans

import (
	"slices"

	"leadlight/api"
)

// Prove returns a proof that no plan costs less, and the cost for which it stands.
func Prove(j api.Job) (api.Proof, int, api.Errno) {
	t, e := read(j)
	if e != api.OK {
		return api.Proof{}, 0, e
	}
	l := newLifts(t)
	_, cost := l.cheapestFilling()
	v := prover{lifts: l, cost: cost}
	p, ok := v.prove(node{})
	if !ok {
		return api.Proof{}, 0, api.ErrLimit
	}
	return p, cost, api.OK
}

// prover makes a proof that no plan costs less than the cheapest one, and counts its nodes.
type prover struct {
	lifts
	cost, nodes int
}

// prove returns a proof for the plans with what is chosen at a node; false, if there are too many nodes.
func (v *prover) prove(n node) (api.Proof, bool) {
	v.nodes++
	if v.nodes > api.MaxNodes {
		return api.Proof{}, false
	}
	if leaf, ok := v.leaf(n); ok {
		return leaf, true
	}
	if v.lower(n.picks) >= v.cost {
		i := v.nextLift(n)
		return v.proveAll(api.Proof{Kind: api.ProofLift, Index: i + 1}, []node{n.lift(i), n.keep(i)})
	}
	i := v.nextBranch(n)
	var kids []node
	for k := range v.problem.Options[i] {
		kids = append(kids, n.choose(i, k))
	}
	return v.proveAll(api.Proof{Kind: api.ProofBranch, Index: i}, kids)
}

// proveAll returns a proof with the proofs of its kids.
func (v *prover) proveAll(p api.Proof, kids []node) (api.Proof, bool) {
	for _, n := range kids {
		kid, ok := v.prove(n)
		if !ok {
			return api.Proof{}, false
		}
		p.Kids = append(p.Kids, kid)
	}
	return p, true
}

// leaf returns a leaf that ends a proof at a node, if there is one.
func (v *prover) leaf(n node) (api.Proof, bool) {
	if v.doubled(n.picks) {
		return api.Proof{Kind: api.ProofTwice}, true
	}
	if rule, ok := v.brokenRule(n.picks); ok {
		return api.Proof{Kind: api.ProofRule, Index: rule}, true
	}
	if v.spent(n) >= v.cost {
		return api.Proof{Kind: api.ProofCost}, true
	}
	if stuck := v.stuck(n).panes(); len(stuck) > 0 {
		return api.Proof{Kind: api.ProofStuck, Index: stuck[0]}, true
	}
	if k := v.knot(n.picks); k.is {
		k.loop.Bounds = slices.Clone(k.loop.Bounds)
		return api.Proof{Kind: api.ProofLoop, Loop: k.loop}, true
	}
	if !v.glazes(n.picks) {
		return api.Proof{Kind: api.ProofGlass}, true
	}
	return api.Proof{}, false
}

// nextLift returns the index of the pane of which a proof tells next whether it is lifted or kept: if there is one, a pane of which one of both is a leaf at once.
func (v *prover) nextLift(n node) int {
	open := v.all().without(v.touched(n)).without(n.kept).panes()
	needed := func(pane int) bool { return v.stuck(n.keep(pane-1)) != set{} }
	dear := func(pane int) bool { return v.spent(n.lift(pane-1)) >= v.cost }
	for _, ends := range []func(int) bool{needed, dear} {
		if k := slices.IndexFunc(open, ends); k >= 0 {
			return open[k] - 1
		}
	}
	return open[0] - 1
}

// nextBranch returns the index of the pane for whose options a proof branches next: that with the fewest options from which a cheaper plan still seems possible.
func (v *prover) nextBranch(n node) int {
	next, fewest := -1, 0
	for i, l := range v.problem.Options {
		if n.picks[i] > 0 {
			continue
		}
		open := 0
		for k := range l {
			kid := n.choose(i, k).picks
			if v.agrees(kid) && v.lower(kid) < v.cost && v.closes(kid) && v.glazes(kid) {
				open++
			}
		}
		if next < 0 || open < fewest {
			next, fewest = i, open
		}
	}
	return next
}

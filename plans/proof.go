package plans

import (
	"leadlight/api"
	"leadlight/leading"
)

// CheckProof returns OK if a proof shows that no plan costs less, and the number of its leaves.
func CheckProof(j api.Job, cost int, p api.Proof) (api.Errno, int) {
	t, e := read(j)
	if e != api.OK {
		return e, 0
	}
	if Nodes(p) > api.MaxNodes {
		return api.ErrLimit, 0
	}
	c := checker{task: t, cost: cost}
	if !c.check(node{}, p) {
		return api.ErrProof, 0
	}
	return api.OK, c.leaves
}

// Nodes returns the number of nodes of a proof.
func Nodes(p api.Proof) int { return count(p, api.MaxNodes+1) }

// count counts the nodes of a proof, but no more than most, as there may be any number of them.
func count(p api.Proof, most int) int {
	n := 1
	for _, kid := range p.Kids {
		if n == most {
			break
		}
		n += count(kid, most-n)
	}
	return n
}

// node is a node of a proof: which options are chosen there, and which panes are lifted and which are kept.
type node struct {
	picks
	lifted, kept set
}

// choose returns the kid with an option of a pane.
func (n node) choose(i, option int) node {
	n.picks[i] = option + 1
	return n
}

// lift and keep return the kids where a pane is lifted and where it is kept.
func (n node) lift(i int) node {
	n.lifted[i] = true
	return n
}

func (n node) keep(i int) node {
	n.kept[i] = true
	return n
}

// touched returns the panes that are lifted, or changed by the chosen options.
func (t *task) touched(n node) set { return n.lifted.join(t.changed(n.picks)) }

// spent returns what the chosen options and the touched panes cost.
func (t *task) spent(n node) int { return t.price(n.picks) + t.leadPrice(t.touched(n)) }

// stuck returns the touched panes that cannot be lifted.
func (t *task) stuck(n node) set { return t.touched(n).without(t.loose(n.kept)) }

// checker checks a proof that no plan costs less than a number, and counts its leaves.
type checker struct {
	*task
	cost, leaves int
}

// check reports whether a proof shows it of the plans with what is chosen at a node.
func (c *checker) check(n node, p api.Proof) bool {
	if p.Kind != api.ProofLoop && (p.Loop.Axis != 0 || len(p.Loop.Bounds) > 0) {
		return false
	}
	switch p.Kind {
	case api.ProofBranch:
		return c.checkBranch(n, p)
	case api.ProofLift:
		return c.checkLift(n, p)
	}
	c.leaves++
	return len(p.Kids) == 0 && c.holds(n, p)
}

// checkBranch is check for the options of a pane.
func (c *checker) checkBranch(n node, p api.Proof) bool {
	i := p.Index
	if !within(i, 0, len(c.panes)-1) || n.picks[i] > 0 || len(p.Kids) != len(c.problem.Options[i]) {
		return false
	}
	for k, kid := range p.Kids {
		if !c.check(n.choose(i, k), kid) {
			return false
		}
	}
	return true
}

// checkLift is check for a pane that is lifted or kept.
func (c *checker) checkLift(n node, p api.Proof) bool {
	i := p.Index - 1
	if !within(i, 0, len(c.panes)-1) || n.lifted[i] || n.kept[i] || len(p.Kids) != 2 {
		return false
	}
	return c.check(n.lift(i), p.Kids[0]) && c.check(n.keep(i), p.Kids[1])
}

// holds reports whether what a leaf says is true at a node.
func (c *checker) holds(n node, p api.Proof) bool {
	switch p.Kind {
	case api.ProofRule:
		return within(p.Index, 0, len(c.problem.Rules)-1) && c.breaks(c.problem.Rules[p.Index], n.picks)
	case api.ProofStuck:
		return within(p.Index, 1, len(c.panes)) && c.stuck(n)[p.Index-1]
	}
	if p.Index != 0 {
		return false
	}
	switch p.Kind {
	case api.ProofTwice:
		return c.doubled(n.picks)
	case api.ProofLoop:
		valid, _ := leading.ValidLoop(c.panel, c.needs(n.picks), p.Loop)
		return valid
	case api.ProofGlass:
		return !c.glazes(n.picks)
	case api.ProofCost:
		return c.spent(n) >= c.cost
	}
	return false
}

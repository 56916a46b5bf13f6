package places

import (
	"errors"

	"leadlight/api"
)

// The kinds of nodes, with the numbers that they have in package api.
const (
	kindBranch = api.NodeBranch + iota
	kindAgree
	kindTwice
	kindRule
)

// errNode is what a node panics with that is wrong, or one too many.
var errNode = errors.New("a node is wrong, or one too many")

// Survey returns a proof of what is possible.
func Survey(p api.Problem) (api.Node, api.Errno) {
	if e := argError(p, true); e != api.OK {
		return api.Node{}, e
	}
	w := walk{search: newSearch(p)}
	var root api.Node
	if !ends(func() { root = w.survey() }) {
		return api.Node{}, api.ErrLimit
	}
	return root, api.OK
}

// Check returns what a survey proves.
func Check(p api.Problem, n api.Node) (count int, possible [][]bool, err api.Errno) {
	if e := argError(p, true); e != api.OK {
		return 0, nil, e
	}
	w := walk{search: newSearch(p), possible: marks(p, false)}
	if !ends(func() { w.check(n) }) {
		return 0, nil, api.ErrSurvey
	}
	return w.count, w.possible, api.OK
}

// walk is a search that walks over the nodes of a survey; it counts them, and those that agree, and marks the options of these.
type walk struct {
	*search
	nodes, count int
	possible     [][]bool
}

// ends reports whether a walk comes to its end, and does not panic at a node.
func ends(walk func()) (ok bool) {
	defer func() {
		if recover() != nil {
			ok = false
		}
	}()
	walk()
	return true
}

// demand panics unless a node is as it must be.
func demand(is bool) {
	if !is {
		panic(errNode)
	}
}

// enter counts a node.
func (w *walk) enter() {
	w.nodes++
	demand(w.nodes <= api.MaxNodes)
}

// survey returns the node for the chosen options.
func (w *walk) survey() api.Node {
	w.enter()
	pane := len(w.chosen)
	if w.doubled() {
		return api.Node{Kind: kindTwice, Index: w.twin(pane - 1)}
	}
	if rule := w.lastBroken(); rule >= 0 {
		return api.Node{Kind: kindRule, Index: rule}
	}
	if pane == len(w.Panes) {
		return api.Node{Kind: kindAgree}
	}
	n := api.Node{Kind: kindBranch, Index: pane}
	for option := range w.Options[pane] {
		w.choose(option)
		n.Kids = append(n.Kids, w.survey())
		w.back()
	}
	return n
}

// check panics unless a node for the chosen options is lawful.
func (w *walk) check(n api.Node) {
	w.enter()
	switch n.Kind {
	case kindBranch:
		w.checkBranch(n)
	case kindAgree:
		w.count++
		markAll(w.possible, w.chosen)
		fallthrough
	case kindTwice, kindRule:
		demand(len(n.Kids) == 0 && w.lawful(n))
	default:
		panic(errNode)
	}
}

// checkBranch panics unless a node that branches is lawful.
func (w *walk) checkBranch(n api.Node) {
	pane := len(w.chosen)
	demand(pane < len(w.Panes) && n.Index == pane && len(n.Kids) == len(w.Options[pane]))
	for option, kid := range n.Kids {
		w.choose(option)
		w.check(kid)
		w.back()
	}
}

// lawful reports whether what a leaf says of the chosen options is true.
func (w *walk) lawful(n api.Node) bool {
	last := len(w.chosen) - 1
	switch n.Kind {
	case kindAgree:
		return n.Index == 0 && w.agrees()
	case kindTwice:
		return within(n.Index, 0, last-1) && w.pieces[last] > 0 && w.pieces[n.Index] == w.pieces[last]
	}
	return within(n.Index, 0, len(w.Rules)-1) && w.broken(n.Index)
}

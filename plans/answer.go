package plans

import (
	"leadlight/api"
	"leadlight/leading"
)

// answers are what the layers below answered. They are kept, as each of these layers' functions checks all that it is given anew.
type answers struct {
	widths   map[[2]int]int                 // of a pane and a swell, the need
	knots    map[[api.MaxLift]api.Need]knot // of needs
	cut      map[[api.MaxLift]int]bool      // of the colours of new glass that the panes want, whether it can be cut
	greatest map[set]set                    // of the kept panes, the greatest feasible set without them
}

// knot is a loop that shows that the panel does not close, if there is one.
type knot struct {
	loop api.Loop
	is   bool
}

func newAnswers() answers {
	return answers{map[[2]int]int{}, map[[api.MaxLift]api.Need]knot{}, map[[api.MaxLift]int]bool{}, map[set]set{}}
}

// width returns the need of a pane for a swell.
func (t *task) width(i, swell int) int {
	key := [2]int{i, swell}
	w, known := t.widths[key]
	if !known {
		w, _ = leading.NeedOf(t.panel, i+1, swell)
		t.widths[key] = w
	}
	return w
}

// closes reports whether the panel closes with the needs of the chosen options.
func (t *task) closes(p picks) bool { return !t.knot(p).is }

// knot returns the knot of the chosen options.
func (t *task) knot(p picks) knot {
	needs := t.needs(p)
	var key [api.MaxLift]api.Need
	copy(key[:], needs)
	found, known := t.knots[key]
	if !known {
		loop, e := leading.FindLoop(t.panel, needs)
		found = knot{loop, e == api.OK}
		t.knots[key] = found
	}
	return found
}

// glazes reports whether the new glass of the chosen options can be cut.
func (t *task) glazes(p picks) bool {
	var key [api.MaxLift]int
	for _, w := range t.wants(p) {
		key[w.ID-1] = w.Colour
	}
	can, known := t.cut[key]
	if !known {
		_, e := t.glaze(p)
		can = e == api.OK
		t.cut[key] = can
	}
	return can
}

// loose returns the panes of the greatest feasible set without kept panes.
func (t *task) loose(kept set) set {
	out, known := t.greatest[kept]
	if !known {
		l, _ := leading.Greatest(t.panel, t.all().without(kept).panes())
		out = setOf(l)
		t.greatest[kept] = out
	}
	return out
}

package web_test

import (
	"math"
	"slices"
	"testing"

	"leadlight/api"
	"leadlight/plane"
	"leadlight/web"
)

// wantPanes returns the panes of a sound web, with the outlines of layer 1.
func wantPanes(w api.Web) []api.Pane {
	var out []api.Pane
	for _, walk := range wantWalks(w) {
		if wantArea(w, walk) <= 0 {
			continue
		}
		points := polygon(w, walk)
		outline, _ := plane.Outline(points)
		p := api.Pane{Outline: outline, Edges: make([][]api.Side, len(outline))}
		first := slices.Index(points, outline[0])
		edge := -1
		for k := range walk {
			i := (first + k) % len(walk)
			if slices.Contains(outline, points[i]) {
				edge++
			}
			p.Edges[edge] = append(p.Edges[edge], walk[i])
		}
		out = append(out, p)
	}
	slices.SortFunc(out, func(p, q api.Pane) int {
		a, b := p.Outline, q.Outline
		for k := range min(len(a), len(b)) {
			if a[k] != b[k] {
				return (a[k].X-b[k].X)*10000 + a[k].Y - b[k].Y
			}
		}
		return len(a) - len(b)
	})
	for k := range out {
		out[k].ID = k + 1
	}
	return out
}

func samePane(p, q api.Pane) bool {
	return p.ID == q.ID && slices.Equal(p.Outline, q.Outline) && slices.EqualFunc(p.Edges, q.Edges, slices.Equal[[]api.Side])
}

func TestPanes(t *testing.T) {
	for _, w := range soundWebs() {
		if panes, e := web.Panes(w); !slices.EqualFunc(panes, wantPanes(w), samePane) || e != api.OK {
			t.Error(w, panes, wantPanes(w), e)
		}
	}
	q := []api.Pane{
		{ID: 1, Outline: []api.Point{at(0, 0), at(4, 0), at(4, 2)}, Edges: [][]api.Side{{fwd(1)}, {fwd(2)}, {back(6)}}},
		{ID: 2, Outline: []api.Point{at(0, 0), at(4, 2), at(4, 4), at(0, 4)}, Edges: [][]api.Side{{fwd(6)}, {fwd(3)}, {fwd(4)}, {fwd(5)}}},
	}
	if panes, e := web.Panes(example()); !slices.EqualFunc(panes, q, samePane) || e != api.OK {
		t.Error("example", panes, e)
	}
	if panes, e := web.Panes(knownWebs()["64 panes"]); len(panes) != 64 || panes[63].ID != 64 || e != api.OK {
		t.Error("64 panes", len(panes), e)
	}
	if panes, e := web.Panes(api.Web{}); len(panes) != 0 || e != api.OK {
		t.Error("nothing", panes, e)
	}
}

// TestPanesStraight has joints at which a pane goes straight on, also across its first corner's edges.
func TestPanesStraight(t *testing.T) {
	w := ring(at(2, 0), at(3, 0), at(3, 3), at(1, 3), at(0, 3), at(0, 2), at(0, 0), at(1, 0))
	want := api.Pane{
		ID:      1,
		Outline: []api.Point{at(0, 0), at(3, 0), at(3, 3), at(0, 3)},
		Edges:   [][]api.Side{{fwd(7), fwd(8), fwd(1)}, {fwd(2)}, {fwd(3), fwd(4)}, {fwd(5), fwd(6)}},
	}
	if panes, e := web.Panes(w); len(panes) != 1 || !samePane(panes[0], want) || e != api.OK {
		t.Error(panes, e)
	}
}

// TestPanesHold is P2.4.
func TestPanesHold(t *testing.T) {
	for _, w := range soundWebs() {
		panes, _ := web.Panes(w)
		edges := map[api.Side]int{}
		for _, p := range panes {
			if !plane.ValidOutline(p.Outline) || len(p.Edges) != len(p.Outline) {
				t.Error("outline", w, p)
			}
			for k, edge := range p.Edges {
				at := p.Outline[k]
				for _, s := range edge {
					edges[s]++
					from, to, _ := web.Ends(w, s)
					id, _ := web.PaneAt(w, s)
					if from.At != at || id != p.ID {
						t.Error("side", w, p, s)
					}
					at = to.At
				}
				if at != p.Outline[(k+1)%len(p.Outline)] {
					t.Error("edge", w, p, k)
				}
			}
		}
		for _, s := range sidesOf(w) {
			if id, _ := web.PaneAt(w, s); id != 0 && edges[s] != 1 || id == 0 && edges[s] != 0 {
				t.Error("edges of a side", w, s, id, edges[s])
			}
		}
		checkAreas(t, w, panes)
	}
}

// checkAreas adds up the areas of the panes of each component.
func checkAreas(t *testing.T, w api.Web, panes []api.Pane) {
	t.Helper()
	parts, _ := web.Components(w)
	for _, part := range parts {
		sum := 0
		for _, p := range panes {
			if from, _, _ := web.Ends(w, p.Edges[0][0]); slices.Contains(part, from.ID) {
				n, _ := plane.Area(p.Outline)
				sum += n
			}
		}
		outer := 0
		walks, _ := web.Walks(w)
		for _, walk := range walks {
			from, _, _ := web.Ends(w, walk[0])
			if n, _ := web.Area(w, walk[0]); n < 0 && slices.Contains(part, from.ID) {
				outer = n
			}
		}
		if sum+outer != 0 {
			t.Error("areas", w, part, sum, outer)
		}
	}
}

// paneOf returns the panes of all sides, by the lists of the panes.
func paneOf(w api.Web) map[api.Side]int {
	out := map[api.Side]int{}
	for _, p := range wantPanes(w) {
		for _, edge := range p.Edges {
			for _, s := range edge {
				out[s] = p.ID
			}
		}
	}
	return out
}

func TestPaneAt(t *testing.T) {
	for _, w := range soundWebs() {
		want := paneOf(w)
		for _, s := range sidesOf(w) {
			if id, e := web.PaneAt(w, s); id != want[s] || e != api.OK {
				t.Error(w, s, id, e)
			}
		}
	}
	if id, e := web.PaneAt(example(), back(2)); id != 0 || e != api.OK {
		t.Error("example", id, e)
	}
}

func TestNeighboursAndBetween(t *testing.T) {
	for _, w := range soundWebs() {
		of := paneOf(w)
		n := len(wantPanes(w))
		for a := 0; a <= n; a++ {
			var near []int
			for b := 0; b <= n; b++ {
				var leads []int
				for _, l := range w.Leads {
					if of[fwd(l.ID)] == a && of[back(l.ID)] == b || of[fwd(l.ID)] == b && of[back(l.ID)] == a {
						leads = append(leads, l.ID)
					}
				}
				if b != 0 && len(leads) > 0 {
					near = append(near, b)
				}
				if got, e := web.Between(w, a, b); !slices.Equal(got, leads) || e != api.OK {
					t.Error("Between", w, a, b, got, e)
				}
			}
			if got, e := web.Neighbours(w, a); a > 0 && (!slices.Equal(got, near) || e != api.OK) {
				t.Error("Neighbours", w, a, got, e)
			}
		}
	}
}

func TestNeighboursAndBetweenExamples(t *testing.T) {
	q := example()
	for _, x := range []struct {
		a, b int
		want []int
	}{{1, 2, []int{6}}, {2, 1, []int{6}}, {0, 1, []int{1, 2}}, {2, 0, []int{3, 4, 5}}, {1, 1, nil}, {0, 0, nil}} {
		if l, e := web.Between(q, x.a, x.b); !slices.Equal(l, x.want) || e != api.OK {
			t.Error("Between", x, l, e)
		}
	}
	if l, e := web.Neighbours(q, 2); !slices.Equal(l, []int{1}) || e != api.OK {
		t.Error("Neighbours", l, e)
	}
	if l, e := web.Neighbours(lattice(3, 3), 5); !slices.Equal(l, []int{2, 4, 6, 8}) || e != api.OK {
		t.Error("Neighbours of the middle", l, e)
	}
	if l, e := web.Neighbours(knownWebs()["two between"], 1); !slices.Equal(l, []int{2}) || e != api.OK {
		t.Error("Neighbours over two leads", l, e)
	}
	if l, e := web.Between(knownWebs()["two between"], 1, 2); !slices.Equal(l, []int{6, 7}) || e != api.OK {
		t.Error("two leads between", l, e)
	}
	for _, bad := range []int{-1, 3, 65536, math.MinInt, math.MaxInt} {
		if l, e := web.Neighbours(q, bad); len(l) != 0 || e != api.ErrNone {
			t.Error("Neighbours", bad, l, e)
		}
		for _, x := range [][2]int{{bad, 1}, {1, bad}, {0, bad}, {bad, bad}} {
			if l, e := web.Between(q, x[0], x[1]); len(l) != 0 || e != api.ErrNone {
				t.Error("Between", x, l, e)
			}
		}
	}
	if l, e := web.Neighbours(q, 0); len(l) != 0 || e != api.ErrNone {
		t.Error("Neighbours of no pane", l, e)
	}
	if l, e := web.Between(api.Web{}, 0, 0); len(l) != 0 || e != api.OK {
		t.Error("Between in nothing", l, e)
	}
	if l, e := web.Between(api.Web{}, 0, 1); len(l) != 0 || e != api.ErrNone {
		t.Error("no pane in nothing", l, e)
	}
}

// TestLocate is W21 and P2.5.
func TestLocate(t *testing.T) {
	for _, w := range soundWebs() {
		for x := range 11 {
			for y := range 9 {
				p := at(x, y)
				want, n := wantSpot(w, p)
				if spot, e := web.Locate(w, p); spot != want || n > 1 || e != api.OK {
					t.Error(w, p, spot, want, n, e)
				}
			}
		}
	}
}

// wantSpot returns what lies at a point, and in how many panes it lies if at no joint or lead.
func wantSpot(w api.Web, p api.Point) (api.Spot, int) {
	for _, j := range w.Joints {
		if j.At == p {
			return api.Spot{Kind: api.SpotJoint, ID: j.ID}, 1
		}
	}
	for _, l := range w.Leads {
		if on(p, pointOf(w, l.A), pointOf(w, l.B)) {
			return api.Spot{Kind: api.SpotLead, ID: l.ID}, 1
		}
	}
	spot, n := api.Spot{}, 0
	for _, pane := range wantPanes(w) {
		if windsAround(w, slices.Concat(pane.Edges...), p) {
			spot = api.Spot{Kind: api.SpotPane, ID: pane.ID}
			n++
		}
	}
	return spot, n
}

func TestLocateExamples(t *testing.T) {
	for p, want := range map[api.Point]api.Spot{
		at(2, 1):       {Kind: api.SpotLead, ID: 6},
		at(1, 2):       {Kind: api.SpotPane, ID: 2},
		at(3, 1):       {Kind: api.SpotPane, ID: 1},
		at(5, 5):       {},
		at(4, 2):       {Kind: api.SpotJoint, ID: 5},
		at(0, 0):       {Kind: api.SpotJoint, ID: 1},
		at(0, 3):       {Kind: api.SpotLead, ID: 5},
		at(4096, 4096): {},
	} {
		if spot, e := web.Locate(example(), p); spot != want || e != api.OK {
			t.Error(p, spot, e)
		}
	}
	if spot, e := web.Locate(api.Web{}, at(0, 0)); spot != (api.Spot{}) || e != api.OK {
		t.Error("nothing", spot, e)
	}
	for _, p := range []api.Point{at(-1, 0), at(0, -1), at(4097, 0), at(0, 4097), at(math.MaxInt, math.MinInt)} {
		if spot, e := web.Locate(example(), p); spot != (api.Spot{}) || e != api.ErrArg {
			t.Error(p, spot, e)
		}
	}
}

func TestValidPanel(t *testing.T) {
	q := example()
	pin := func(joints ...int) []api.Pin {
		var out []api.Pin
		for _, j := range joints {
			out = append(out, api.Pin{Joint: j})
		}
		return out
	}
	middle := build([]api.Point{at(0, 0), at(6, 0), at(3, 6), at(3, 2)}, [2]int{1, 2}, [2]int{2, 3}, [2]int{3, 1}, [2]int{1, 4}, [2]int{2, 4}, [2]int{3, 4})
	two := beside(square(at(0, 0), 3), square(at(5, 1), 2))
	toAndFro := build([]api.Point{at(0, 0), at(4, 0), at(4, 4), at(0, 4)}, [2]int{1, 2}, [2]int{3, 2}, [2]int{3, 4}, [2]int{1, 4})
	for name, x := range map[string]struct {
		panel api.Panel
		want  bool
	}{
		"nothing":           {api.Panel{}, true},
		"nothing, open":     {api.Panel{Open: []int{1}}, false},
		"nothing, pin":      {api.Panel{Pins: pin(1)}, false},
		"one pin":           {api.Panel{Web: q, Pins: pin(1)}, true},
		"all pins":          {api.Panel{Web: q, Open: []int{1, 2, 3, 4, 5}, Pins: pin(1, 2, 3, 4, 5)}, true},
		"no pin":            {api.Panel{Web: q, Open: []int{1}}, false},
		"lead inside":       {api.Panel{Web: q, Open: []int{6}, Pins: pin(1)}, false},
		"lead inside, last": {api.Panel{Web: q, Open: []int{1, 6}, Pins: pin(1)}, false},
		"no lead":           {api.Panel{Web: q, Open: []int{7}, Pins: pin(1)}, false},
		"lead 0":            {api.Panel{Web: q, Open: []int{0}, Pins: pin(1)}, false},
		"lead twice":        {api.Panel{Web: q, Open: []int{2, 2}, Pins: pin(1)}, false},
		"leads fall":        {api.Panel{Web: q, Open: []int{3, 2}, Pins: pin(1)}, false},
		"pin twice":         {api.Panel{Web: q, Pins: pin(1, 1)}, false},
		"pins fall":         {api.Panel{Web: q, Pins: pin(2, 1)}, false},
		"no joint":          {api.Panel{Web: q, Pins: pin(1, 6)}, false},
		"joint 0":           {api.Panel{Web: q, Pins: pin(0, 1)}, false},
		"joint inside":      {api.Panel{Web: middle, Pins: pin(1, 4)}, false},
		"joint not inside":  {api.Panel{Web: middle, Pins: pin(1, 3)}, true},
		"at ends of leads":  {api.Panel{Web: toAndFro, Pins: pin(2, 4)}, true},
		"where leads begin": {api.Panel{Web: toAndFro, Pins: pin(1, 3)}, true},
		"play -1":           {api.Panel{Web: q, Pins: []api.Pin{{Joint: 1, Play: -1}}}, false},
		"play 64":           {api.Panel{Web: q, Pins: []api.Pin{{Joint: 1, Play: 64}}}, true},
		"play 65":           {api.Panel{Web: q, Pins: []api.Pin{{Joint: 1, Play: 65}}}, false},
		"both pinned":       {api.Panel{Web: two, Open: []int{2, 1004}, Pins: pin(3, 1001)}, true},
		"first not pinned":  {api.Panel{Web: two, Pins: pin(1001, 1002)}, false},
		"second not pinned": {api.Panel{Web: two, Pins: pin(1, 2, 3, 4)}, false},
		"not sound":         {api.Panel{Web: knownWebs()["bridge"], Pins: pin(1)}, false},
		"nested":            {api.Panel{Web: knownWebs()["nested"], Pins: pin(1, 1001)}, false},
		"not valid":         {api.Panel{Web: invalidWebs()[api.ErrMeet], Pins: pin(1)}, false},
		"all round":         {api.Panel{Web: lattice(2, 1), Open: []int{1, 2, 3, 5, 6, 7}, Pins: pin(1)}, true},
		"all":               {api.Panel{Web: lattice(2, 1), Open: []int{1, 2, 3, 4, 5, 6, 7}, Pins: pin(1)}, false},
	} {
		if got := web.ValidPanel(x.panel); got != x.want {
			t.Error(name, got)
		}
	}
}

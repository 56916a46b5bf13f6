package leading_test

import (
	"math/rand"
	"slices"
	"testing"

	"leadlight/api"
	"leadlight/leading"
	"leadlight/plane"
)

// TestContact compares N1 to N7 with their rules.
func TestContact(t *testing.T) {
	d := rand.New(rand.NewSource(2))
	count := map[string]int{}
	for _, s := range samples() {
		for _, present := range s.someLists(d) {
			ways, frees := s.wantWays(present), s.wantFrees(present)
			if l, e := leading.Outside(s.Panel, present); !slices.Equal(l, minus(ways, present)) || e != api.OK {
				t.Error("Outside", s.Panel, present, l, e)
			}
			if l, e := leading.Frees(s.Panel, present); !slices.Equal(l, frees) || e != api.OK {
				t.Error("Frees", s.Panel, present, l, frees, e)
			}
			for _, p := range s.panes {
				if is, e := leading.WayOut(s.Panel, present, p.ID); is != slices.Contains(ways, p.ID) || e != api.OK {
					t.Error("WayOut", s.Panel, present, p.ID, is, e)
				}
				if is, e := leading.Free(s.Panel, present, p.ID); is != slices.Contains(frees, p.ID) || e != api.OK {
					t.Error("Free", s.Panel, present, p.ID, is, e)
				}
				checkEdges(t, s, present, p.ID, count)
			}
			count["free"] += len(frees)
			count["held"] += len(minus(present, frees))
			count["outside"] += len(minus(ways, present))
		}
	}
	for _, name := range []string{"free", "held", "outside", "stuck"} {
		if count[name] < 200 {
			t.Error("few", name, count)
		}
	}
}

// checkEdges is the part of TestContact for the edges of a pane, and P4.5.
func checkEdges(t *testing.T, s known, present []int, pane int, count map[string]int) {
	t.Helper()
	blocked := s.wantBlocked(present, pane)
	normals := s.normalsOf(pane, blocked)
	if l, e := leading.Blocked(s.Panel, present, pane); !slices.Equal(l, blocked) || e != api.OK {
		t.Error("Blocked", s.Panel, present, pane, l, e)
	}
	if l, e := leading.Normals(s.Panel, present, pane); !slices.Equal(l, normals) || e != api.OK {
		t.Error("Normals", s.Panel, present, pane, l, e)
	}
	stuck, e := leading.Stuck(s.Panel, present, pane)
	if leave(normals) {
		if len(stuck) != 0 || e != api.ErrNone {
			t.Error("Stuck, but free to move", s.Panel, present, pane, stuck, e)
		}
		return
	}
	count["stuck"]++
	_, block, _ := plane.Exit(normals)
	var want []int
	for _, k := range block {
		want = append(want, blocked[k])
	}
	if !slices.Equal(stuck, want) || e != api.OK {
		t.Error("Stuck", s.Panel, present, pane, stuck, want, e)
	}
	if len(stuck) > 4 || len(both(stuck, blocked)) != len(stuck) || leave(s.normalsOf(pane, stuck)) {
		t.Error("P4.5", s.Panel, present, pane, stuck)
	}
}

func TestContactExamples(t *testing.T) {
	p := example(3)
	if l, e := leading.Blocked(p, []int{1, 2}, 2); !slices.Equal(l, []int{0, 2, 3}) || e != api.OK {
		t.Error("Blocked", l, e)
	}
	if l, e := leading.Normals(p, []int{1, 2}, 2); !slices.Equal(l, []api.Point{at(2, -4), at(0, 4), at(-4, 0)}) || e != api.OK {
		t.Error("Normals", l, e)
	}
	if is, e := leading.Free(p, []int{1, 2}, 2); is || e != api.OK {
		t.Error("Free", is, e)
	}
	if l, e := leading.Stuck(p, []int{1, 2}, 2); !slices.Equal(l, []int{0, 2, 3}) || e != api.OK {
		t.Error("Stuck", l, e)
	}
	for _, x := range []struct {
		present []int
		pane    int
		want    bool
	}{{[]int{1, 2}, 1, false}, {[]int{1}, 1, true}, {[]int{1, 2}, 2, true}, {nil, 1, true}, {nil, 2, true}, {[]int{2}, 1, false}} {
		if is, e := leading.WayOut(p, x.present, x.pane); is != x.want || e != api.OK {
			t.Error("WayOut", x, is, e)
		}
	}
}

// TestAbsent asks for panes that are absent: their edges are blocked as those of present ones, but they are not free.
func TestAbsent(t *testing.T) {
	p := example(3, 4)
	if l, e := leading.Blocked(p, []int{1}, 2); !slices.Equal(l, []int{0, 3}) || e != api.OK {
		t.Error("Blocked", l, e)
	}
	if l, e := leading.Normals(p, []int{1}, 2); !slices.Equal(l, []api.Point{at(2, -4), at(-4, 0)}) || e != api.OK {
		t.Error("Normals", l, e)
	}
	if l, e := leading.Blocked(p, nil, 2); !slices.Equal(l, []int{3}) || e != api.OK {
		t.Error("Blocked by the frame only", l, e)
	}
	if l, e := leading.Stuck(example(3), []int{1}, 2); !slices.Equal(l, []int{0, 2, 3}) || e != api.OK {
		t.Error("Stuck", l, e)
	}
	if l, e := leading.Stuck(p, []int{1}, 2); len(l) != 0 || e != api.ErrNone {
		t.Error("Stuck", l, e)
	}
	if is, e := leading.Free(p, []int{1}, 2); is || e != api.OK {
		t.Error("Free", is, e)
	}
	if l, e := leading.Frees(p, []int{1}); !slices.Equal(l, []int{1}) || e != api.OK {
		t.Error("Frees", l, e)
	}
	if l, e := leading.Frees(p, nil); len(l) != 0 || e != api.OK {
		t.Error("Frees of nothing", l, e)
	}
	if l, e := leading.Outside(p, nil); !slices.Equal(l, []int{1, 2}) || e != api.OK {
		t.Error("Outside", l, e)
	}
	if l, e := leading.Outside(p, []int{2}); len(l) != 0 || e != api.OK {
		t.Error("Outside behind a present pane", l, e)
	}
}

// TestWithoutWayOut has panes with a direction, but no way out; and one that nothing blocks.
func TestWithoutWayOut(t *testing.T) {
	closed := example()
	if l, e := leading.Stuck(closed, []int{1}, 1); len(l) != 0 || e != api.ErrNone {
		t.Error("a direction is left", l, e)
	}
	if is, e := leading.Free(closed, []int{1}, 1); is || e != api.OK {
		t.Error("Free in a closed frame", is, e)
	}
	if l, e := leading.Outside(closed, nil); len(l) != 0 || e != api.OK {
		t.Error("Outside in a closed frame", l, e)
	}
	open := api.Panel{Web: square(3), Open: []int{1, 2, 3, 4}, Pins: pins(1)}
	if l, e := leading.Blocked(open, []int{1}, 1); len(l) != 0 || e != api.OK {
		t.Error("Blocked by nothing", l, e)
	}
	if l, e := leading.Normals(open, []int{1}, 1); len(l) != 0 || e != api.OK {
		t.Error("Normals of nothing", l, e)
	}
	if is, e := leading.Free(open, []int{1}, 1); !is || e != api.OK {
		t.Error("Free of everything", is, e)
	}
	// Opposite walls leave the direction between them, and three walls the open one.
	for _, lead := range []int{1, 2, 3, 4} {
		p := api.Panel{Web: square(3), Open: []int{lead}, Pins: pins(1)}
		if is, e := leading.Free(p, []int{1}, 1); !is || e != api.OK {
			t.Error("one open lead", lead, is, e)
		}
	}
	if l, e := leading.Stuck(api.Panel{Web: square(3), Pins: pins(1)}, []int{1}, 1); !slices.Equal(l, []int{0, 1, 2, 3}) || e != api.OK {
		t.Error("four walls", l, e)
	}
}

// TestChain has a way out along a chain of absent panes, in a row of four that is open at its left end.
func TestChain(t *testing.T) {
	row := api.Panel{Web: lattice(4, 1, 2), Open: []int{1}, Pins: pins(1)}
	for _, x := range []struct{ present, outside, ways, frees []int }{
		{nil, []int{1, 2, 3, 4}, []int{1, 2, 3, 4}, nil},
		{[]int{4}, []int{1, 2, 3}, []int{1, 2, 3, 4}, []int{4}},
		{[]int{3}, []int{1, 2}, []int{1, 2, 3}, []int{3}},
		{[]int{2, 3}, []int{1}, []int{1, 2}, []int{2}},
		{[]int{1}, nil, []int{1}, []int{1}},
		{[]int{1, 2, 3, 4}, nil, []int{1}, []int{1}},
	} {
		if l, e := leading.Outside(row, x.present); !slices.Equal(l, x.outside) || e != api.OK {
			t.Error("Outside", x, l, e)
		}
		if l, e := leading.Frees(row, x.present); !slices.Equal(l, x.frees) || e != api.OK {
			t.Error("Frees", x, l, e)
		}
		for pane := 1; pane <= 4; pane++ {
			if is, e := leading.WayOut(row, x.present, pane); is != slices.Contains(x.ways, pane) || e != api.OK {
				t.Error("WayOut", x, pane, is, e)
			}
		}
	}
}

// TestLongEdge has an edge along three leads, of which each may be the one that blocks it.
func TestLongEdge(t *testing.T) {
	w := ring(at(0, 0), at(2, 0), at(4, 0), at(6, 0), at(6, 3), at(0, 3))
	for _, x := range []struct{ open, blocked []int }{
		{[]int{1, 2, 3}, []int{1, 2, 3}},
		{[]int{2, 3}, []int{0, 1, 2, 3}},
		{[]int{1, 3}, []int{0, 1, 2, 3}},
		{[]int{1, 2}, []int{0, 1, 2, 3}},
		{[]int{1, 2, 3, 4, 6}, []int{2}},
	} {
		p := api.Panel{Web: w, Open: x.open, Pins: pins(1)}
		if l, e := leading.Blocked(p, []int{1}, 1); !slices.Equal(l, x.blocked) || e != api.OK {
			t.Error(x, l, e)
		}
		if is, e := leading.WayOut(p, []int{1}, 1); !is || e != api.OK {
			t.Error(x, is, e)
		}
	}
	// Two of the three leads of the edge above are at other panes.
	w = lattice(3, 1, 4)
	w.Joints = append(w.Joints, api.Joint{ID: 9, At: at(0, 9)}, api.Joint{ID: 10, At: at(12, 9)})
	w.Leads = append(w.Leads, api.Lead{ID: 20, A: 2, B: 9}, api.Lead{ID: 21, A: 9, B: 10}, api.Lead{ID: 22, A: 10, B: 8})
	p := api.Panel{Web: w, Pins: pins(1)}
	above := 2
	for _, x := range []struct{ present, blocked []int }{
		{[]int{above}, []int{1, 2, 3}},
		{[]int{1, above}, []int{0, 1, 2, 3}},
		{[]int{above, 4}, []int{0, 1, 2, 3}},
	} {
		if l, e := leading.Blocked(p, x.present, above); !slices.Equal(l, x.blocked) || e != api.OK {
			t.Error(x, l, e)
		}
	}
}

// TestLessPresent is P4.2.
func TestLessPresent(t *testing.T) {
	d := rand.New(rand.NewSource(3))
	checked := 0
	for _, s := range samples() {
		for _, present := range s.someLists(d) {
			frees, _ := leading.Frees(s.Panel, present)
			for range 3 {
				less := part(d, present)
				now, e := leading.Frees(s.Panel, less)
				if l := minus(both(frees, less), now); len(l) > 0 || e != api.OK {
					t.Error(s.Panel, present, less, l, e)
				}
				checked += len(both(frees, less))
			}
		}
	}
	if checked < 500 {
		t.Error("few free panes", checked)
	}
}

package glass_test

import (
	"math/rand"
	"slices"
	"testing"

	"leadlight/api"
	"leadlight/glass"
	"leadlight/plane"
	"leadlight/web"
)

// window is a web of a square, a rectangle, and a square that is divided by a slanting lead.
func window() api.Web {
	w := api.Web{}
	for k, p := range pts(0, 0, 4, 0, 10, 0, 0, 4, 4, 4, 10, 4, 0, 10, 4, 10, 10, 10) {
		w.Joints = append(w.Joints, api.Joint{ID: k + 1, At: p})
	}
	for k, l := range [][2]int{{1, 2}, {2, 3}, {4, 5}, {5, 6}, {7, 8}, {8, 9}, {1, 4}, {4, 7}, {2, 5}, {5, 8}, {3, 6}, {6, 9}, {5, 9}} {
		w.Leads = append(w.Leads, api.Lead{ID: k + 1, A: l[0], B: l[1]})
	}
	return w
}

// TestPanes is P0.2: a piece with the exact gauges of a pane fits it by just the settings by which its outline is congruent to itself, and by no fewer within wider bounds.
func TestPanes(t *testing.T) {
	panes, e := web.Panes(window())
	if len(panes) != 5 || e != api.OK {
		t.Fatal(panes, e)
	}
	all := outlines()
	for _, p := range panes {
		all = append(all, p.Outline)
	}
	r := rand.New(rand.NewSource(2))
	for _, l := range all {
		own, _ := plane.Settings(l, l)
		p := exact(t, l)
		if got, e := glass.Settings(p, l); !slices.Equal(got, own) || e != api.OK {
			t.Error(l, got, own, e)
		}
		wide, e := glass.Settings(loose(r, p, 50), l)
		for _, s := range own {
			if !slices.Contains(wide, s) || e != api.OK {
				t.Error("wider", l, s, e)
			}
		}
	}
}

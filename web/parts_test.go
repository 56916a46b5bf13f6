package web_test

import (
	"slices"
	"testing"

	"leadlight/api"
	"leadlight/web"
)

func TestComponents(t *testing.T) {
	for _, w := range someWebs() {
		if l, e := web.Components(w); !slices.EqualFunc(l, wantComponents(w), slices.Equal[[]int]) || e != api.OK {
			t.Error(w, l, e)
		}
	}
	// The joints of both squares take turns.
	w := build([]api.Point{at(0, 0), at(5, 0), at(2, 0), at(7, 0), at(2, 2), at(7, 2), at(9, 9)}, [2]int{4, 2}, [2]int{5, 3}, [2]int{3, 1}, [2]int{6, 4})
	if l, e := web.Components(w); len(l) != 3 || !slices.Equal(l[0], []int{1, 3, 5}) || !slices.Equal(l[1], []int{2, 4, 6}) || !slices.Equal(l[2], []int{7}) || e != api.OK {
		t.Error(l, e)
	}
}

func TestBridgesAndPinches(t *testing.T) {
	for _, w := range someWebs() {
		if l, e := web.Bridges(w); !slices.Equal(l, wantBridges(w)) || e != api.OK {
			t.Error("Bridges", w, l, e)
		}
		if l, e := web.Pinches(w); !slices.Equal(l, wantPinches(w)) || e != api.OK {
			t.Error("Pinches", w, l, e)
		}
	}
	for name, x := range map[string]struct{ bridges, pinches []int }{
		"nothing":      {},
		"a joint":      {},
		"a lead":       {bridges: []int{1}},
		"two leads":    {[]int{1, 2}, []int{2}},
		"star":         {[]int{1, 2, 3, 4, 5, 6, 7, 8}, []int{1}},
		"example":      {},
		"pinch":        {pinches: []int{1}},
		"pinch inside": {pinches: []int{1}},
		"bridge":       {[]int{4}, []int{2, 4}},
		"hanging":      {[]int{5}, []int{1}},
	} {
		w := knownWebs()[name]
		bridges, e := web.Bridges(w)
		pinches, err := web.Pinches(w)
		if !slices.Equal(bridges, x.bridges) || !slices.Equal(pinches, x.pinches) || e != api.OK || err != api.OK {
			t.Error(name, bridges, pinches, e, err)
		}
	}
}

// TestBridgesByWalks is P2.7.
func TestBridgesByWalks(t *testing.T) {
	for _, w := range someWebs() {
		bridges, _ := web.Bridges(w)
		for _, l := range w.Leads {
			walk, _ := web.Walk(w, fwd(l.ID))
			if slices.Contains(walk, back(l.ID)) != slices.Contains(bridges, l.ID) {
				t.Error(w, l, walk, bridges)
			}
		}
	}
}

func TestEuler(t *testing.T) {
	for name, want := range map[string]api.Count{
		"nothing":       {Faces: 1},
		"a joint":       {Joints: 1, Faces: 1, Components: 1},
		"a lead":        {Joints: 2, Leads: 1, Faces: 1, Components: 1},
		"example":       {Joints: 5, Leads: 6, Faces: 3, Components: 1},
		"apart":         {Joints: 8, Leads: 8, Faces: 3, Components: 2},
		"nested":        {Joints: 8, Leads: 8, Faces: 3, Components: 2},
		"hanging":       {Joints: 5, Leads: 5, Faces: 2, Components: 1},
		"square, joint": {Joints: 5, Leads: 4, Faces: 2, Components: 2},
		"64 panes":      {Joints: 81, Leads: 144, Faces: 65, Components: 1},
	} {
		if c, e := web.Euler(knownWebs()[name]); c != want || e != api.OK {
			t.Error(name, c, e)
		}
	}
}

// TestEulerSum is P2.3.
func TestEulerSum(t *testing.T) {
	for _, w := range someWebs() {
		c, e := web.Euler(w)
		if c.Joints != len(w.Joints) || c.Leads != len(w.Leads) || c.Components != len(wantComponents(w)) || e != api.OK {
			t.Error(w, c, e)
		}
		if c.Joints-c.Leads+c.Faces != 1+c.Components {
			t.Error("Euler", w, c)
		}
	}
}

func TestSound(t *testing.T) {
	for _, w := range someWebs() {
		if e := web.Sound(w); e != wantSound(w) {
			t.Error(w, e, wantSound(w))
		}
	}
	for name, want := range map[string]api.Errno{
		"nothing":       api.OK,
		"a joint":       api.ErrApart,
		"a lead":        api.ErrApart,
		"two leads":     api.ErrApart,
		"example":       api.OK,
		"apart":         api.OK,
		"nested":        api.ErrNested,
		"nested twice":  api.ErrNested,
		"in a notch":    api.OK,
		"pinch":         api.ErrApart,
		"pinch inside":  api.ErrApart,
		"bridge":        api.ErrApart,
		"hanging":       api.ErrApart,
		"square, joint": api.ErrApart,
		"whole grid":    api.OK,
		"64 panes":      api.OK,
		"65 panes":      api.ErrLimit,
		"24 corners":    api.OK,
		"25 corners":    api.ErrLimit,
		"straight":      api.OK,
	} {
		if e := web.Sound(knownWebs()[name]); e != want {
			t.Error(name, e)
		}
	}
}

// comb returns the web of a polygon with four corners for each of its teeth, which stand on a bar.
func comb(teeth int) api.Web {
	points := []api.Point{at(0, 0), at(40*teeth-20, 0)}
	for k := teeth - 1; k > 0; k-- {
		points = append(points, at(40*k+20, 50), at(40*k, 50), at(40*k, 10), at(40*k-20, 10))
	}
	return ring(append(points, at(20, 50), at(0, 50))...)
}

// TestSoundOrder checks which error comes first, also if a component lies in a polygon that has more corners than an outline.
func TestSoundOrder(t *testing.T) {
	k := knownWebs()
	large, around := moved(comb(8), 9, 9), square(at(0, 0), 1000)
	inBar, inTooth, inGap := square(at(30, 12), 3), square(at(51, 40), 3), square(at(31, 40), 3)
	for name, x := range map[string]struct {
		w    api.Web
		want api.Errno
	}{
		"nested and apart":             {beside(k["nested"], moved(k["bridge"], 20, 0)), api.ErrApart},
		"too many and nested":          {beside(k["65 panes"], moved(k["nested"], 50, 0)), api.ErrNested},
		"too many and apart":           {beside(k["65 panes"], moved(k["a joint"], 50, 0)), api.ErrApart},
		"too many corners":             {large, api.ErrLimit},
		"nested and too many corners":  {beside(around, large), api.ErrNested},
		"around, last":                 {beside(large, around), api.ErrNested},
		"in the bar":                   {beside(large, inBar), api.ErrNested},
		"in the bar, first":            {beside(inBar, large), api.ErrNested},
		"in a tooth":                   {beside(large, inTooth), api.ErrNested},
		"in a gap":                     {beside(large, inGap), api.ErrLimit},
		"in a gap, and one in a tooth": {beside(beside(inGap, large), inTooth), api.ErrNested},
	} {
		if e, id := web.Check(x.w); e != api.OK {
			t.Error(name, "not valid", e, id)
		}
		if e := web.Sound(x.w); e != x.want {
			t.Error(name, e)
		}
	}
}

package web_test

import (
	"math"
	"math/rand"
	"slices"
	"testing"

	"leadlight/api"
	"leadlight/web"
)

func TestJointOfAndLeadOf(t *testing.T) {
	for _, w := range someWebs() {
		for _, j := range w.Joints {
			if got, e := web.JointOf(w, j.ID); got != j || e != api.OK {
				t.Error(w, j, got, e)
			}
		}
		for _, l := range w.Leads {
			if got, e := web.LeadOf(w, l.ID); got != l || e != api.OK {
				t.Error(w, l, got, e)
			}
		}
	}
	w := build([]api.Point{at(0, 0), at(1, 0), at(2, 1)}, [2]int{1, 2}, [2]int{2, 3})
	w.Joints[2].ID, w.Leads[1].ID, w.Leads[1].B = 5, 5, 5
	for _, id := range []int{-1, 0, 3, 4, 6, 65535, 65536} {
		if j, e := web.JointOf(w, id); j != (api.Joint{}) || e != api.ErrNone {
			t.Error("joint", id, j, e)
		}
		if l, e := web.LeadOf(w, id); l != (api.Lead{}) || e != api.ErrNone {
			t.Error("lead", id, l, e)
		}
	}
}

func TestEndsAndFlange(t *testing.T) {
	for _, w := range someWebs() {
		for _, l := range w.Leads {
			a, b := api.Joint{ID: l.A, At: pointOf(w, l.A)}, api.Joint{ID: l.B, At: pointOf(w, l.B)}
			if from, to, e := web.Ends(w, fwd(l.ID)); from != a || to != b || e != api.OK {
				t.Error(w, l, from, to, e)
			}
			if from, to, e := web.Ends(w, back(l.ID)); from != b || to != a || e != api.OK {
				t.Error(w, l, from, to, e)
			}
			if n, e := web.Flange(w, fwd(l.ID)); n != l.Left || e != api.OK {
				t.Error(w, l, n, e)
			}
			if n, e := web.Flange(w, back(l.ID)); n != l.Right || e != api.OK {
				t.Error(w, l, n, e)
			}
		}
	}
}

// TestNoSide asks for sides that are none of the web.
func TestNoSide(t *testing.T) {
	w := example()
	w.Leads[5].ID = 8
	for _, s := range []api.Side{{}, {Back: true}, fwd(-1), fwd(6), back(7), fwd(9), back(65536)} {
		if from, to, e := web.Ends(w, s); from != (api.Joint{}) || to != (api.Joint{}) || e != api.ErrNone {
			t.Error("Ends", s, from, to, e)
		}
		if n, e := web.Flange(w, s); n != 0 || e != api.ErrNone {
			t.Error("Flange", s, n, e)
		}
		if u, e := web.Next(w, s); u != (api.Side{}) || e != api.ErrNone {
			t.Error("Next", s, u, e)
		}
		if u, e := web.Prior(w, s); u != (api.Side{}) || e != api.ErrNone {
			t.Error("Prior", s, u, e)
		}
		if l, e := web.Walk(w, s); len(l) != 0 || e != api.ErrNone {
			t.Error("Walk", s, l, e)
		}
		if n, e := web.Area(w, s); n != 0 || e != api.ErrNone {
			t.Error("Area", s, n, e)
		}
		if n, e := web.PaneAt(w, s); n != 0 || e != api.ErrNone {
			t.Error("PaneAt", s, n, e)
		}
	}
}

func TestAround(t *testing.T) {
	for _, w := range someWebs() {
		for _, j := range w.Joints {
			if l, e := web.Around(w, j.ID); !slices.Equal(l, wantAround(w, j.ID)) || e != api.OK {
				t.Error(w, j, l, e)
			}
		}
	}
	if l, e := web.Around(example(), 1); !slices.Equal(l, []api.Side{fwd(1), fwd(6), back(5)}) || e != api.OK {
		t.Error("example", l, e)
	}
	star := []api.Side{fwd(1), back(2), fwd(3), back(4), fwd(5), back(6), fwd(7), back(8)}
	if l, e := web.Around(knownWebs()["star"], 1); !slices.Equal(l, star) || e != api.OK {
		t.Error("star", l, e)
	}
	for _, id := range []int{-1, 0, 6, 65536} {
		if l, e := web.Around(example(), id); len(l) != 0 || e != api.ErrNone {
			t.Error(id, l, e)
		}
	}
}

// TestAroundClose has directions that hardly differ.
func TestAroundClose(t *testing.T) {
	w := build([]api.Point{at(0, 0), at(4096, 4095), at(4095, 4094), at(4094, 4093), at(4096, 4096)}, [2]int{1, 2}, [2]int{1, 3}, [2]int{4, 1}, [2]int{5, 1})
	if l, e := web.Around(w, 1); !slices.Equal(l, []api.Side{back(3), fwd(2), fwd(1), back(4)}) || e != api.OK {
		t.Error(l, e)
	}
}

// invalidWebs are webs that are not valid, with their errors.
func invalidWebs() map[api.Errno]api.Web {
	noJoint, noLead, meets := example(), example(), example()
	noJoint.Joints[1].ID = 1
	noLead.Leads[1].A = 5
	meets.Leads[4].B = 2
	return map[api.Errno]api.Web{api.ErrLimit: {Leads: make([]api.Lead, 401)}, api.ErrJoint: noJoint, api.ErrLead: noLead, api.ErrMeet: meets}
}

// unsoundWebs are webs that are valid but not sound, with their errors.
func unsoundWebs() map[api.Errno]api.Web {
	k := knownWebs()
	return map[api.Errno]api.Web{api.ErrApart: k["bridge"], api.ErrNested: k["nested"], api.ErrLimit: k["65 panes"]}
}

// TestWebErrors checks that the error of a web comes before those of the other arguments, and that nothing comes with it. Each call is wrong in these, too.
func TestWebErrors(t *testing.T) {
	wrong := fwd(-1)
	check := func(name string, got, want api.Errno, empty bool) {
		t.Helper()
		if got != want || !empty {
			t.Error(name, got, want, empty)
		}
	}
	for want, w := range invalidWebs() {
		j, e := web.JointOf(w, 0)
		check("JointOf", e, want, j == api.Joint{})
		l, e := web.LeadOf(w, 0)
		check("LeadOf", e, want, l == api.Lead{})
		a, b, e := web.Ends(w, wrong)
		check("Ends", e, want, a == api.Joint{} && b == api.Joint{})
		n, e := web.Flange(w, wrong)
		check("Flange", e, want, n == 0)
		sides, e := web.Around(w, 0)
		check("Around", e, want, len(sides) == 0)
		s, e := web.Next(w, wrong)
		check("Next", e, want, s == api.Side{})
		s, e = web.Prior(w, wrong)
		check("Prior", e, want, s == api.Side{})
		sides, e = web.Walk(w, wrong)
		check("Walk", e, want, len(sides) == 0)
		n, e = web.Area(w, wrong)
		check("Area", e, want, n == 0)
		walks, e := web.Walks(w)
		check("Walks", e, want, len(walks) == 0)
		parts, e := web.Components(w)
		check("Components", e, want, len(parts) == 0)
		ids, e := web.Bridges(w)
		check("Bridges", e, want, len(ids) == 0)
		ids, e = web.Pinches(w)
		check("Pinches", e, want, len(ids) == 0)
		c, e := web.Euler(w)
		check("Euler", e, want, c == api.Count{})
		after, e := web.Apply(w, api.Edit{})
		check("Apply", e, want, sameWeb(after, api.Web{}))
		edit, e := web.Inverse(w, api.Edit{})
		check("Inverse", e, want, edit == api.Edit{})
		checkSoundErrors(check, w, want)
	}
	for want, w := range unsoundWebs() {
		checkSoundErrors(check, w, want)
	}
}

// checkSoundErrors is the part of TestWebErrors for the functions that need sound webs.
func checkSoundErrors(check func(string, api.Errno, api.Errno, bool), w api.Web, want api.Errno) {
	check("Sound", web.Sound(w), want, true)
	panes, e := web.Panes(w)
	check("Panes", e, want, len(panes) == 0)
	n, e := web.PaneAt(w, fwd(-1))
	check("PaneAt", e, want, n == 0)
	ids, e := web.Neighbours(w, 0)
	check("Neighbours", e, want, len(ids) == 0)
	ids, e = web.Between(w, -1, -1)
	check("Between", e, want, len(ids) == 0)
	spot, e := web.Locate(w, at(-1, -1))
	check("Locate", e, want, spot == api.Spot{})
	check("ValidPanel", api.OK, api.OK, !web.ValidPanel(api.Panel{Web: w, Pins: []api.Pin{{Joint: 1}}}))
}

// TestArgumentsStay checks that no call changes its web, and that no result shares memory with it, or with itself.
func TestArgumentsStay(t *testing.T) {
	w := example()
	grow := func(l []api.Side) { _ = append(l[:len(l):cap(l)], fwd(99)) }
	walks, _ := web.Walks(w)
	for _, walk := range walks {
		grow(walk)
	}
	again, _ := web.Walks(w)
	for k := range again {
		if !slices.Equal(walks[k], again[k]) {
			t.Error("walks share memory", walks)
		}
	}
	panes, _ := web.Panes(w)
	for _, p := range panes {
		for _, edge := range p.Edges {
			grow(edge)
		}
		_ = append(p.Outline, at(9, 9))
	}
	for k, p := range panes {
		for i, edge := range p.Edges {
			if want := wantPanes(w)[k].Edges[i]; !slices.Equal(edge, want) {
				t.Error("edges share memory", edge, want)
			}
		}
	}
	if !sameWeb(w, example()) {
		t.Error("changed", w)
	}
}

// TestEditsStay checks that edits leave their web, and that their results share no memory with it.
func TestEditsStay(t *testing.T) {
	for _, e := range []api.Edit{addJoint(9, at(9, 8)), addLead(9, 4, 1), split(2, 6, at(4, 0), 7), unjoint(50), unlead(2), merge(1, 2, 2)} {
		w := chain()
		// A result may not stand in the room behind the elements, either.
		w.Joints = append(w.Joints, api.Joint{}, api.Joint{})[:len(w.Joints)]
		w.Leads = append(w.Leads, api.Lead{}, api.Lead{})[:len(w.Leads)]
		after, err := web.Apply(w, e)
		for k := range after.Joints {
			after.Joints[k].ID = -1
		}
		for k := range after.Leads {
			after.Leads[k].ID = -1
		}
		behind := w.Joints[len(w.Joints) : len(w.Joints)+1][0].ID + w.Leads[len(w.Leads) : len(w.Leads)+1][0].ID
		if !sameWeb(w, chain()) || behind != 0 || err != api.OK {
			t.Error(e, w, behind, err)
		}
	}
}

// TestAnyArguments calls all functions with numbers from anywhere: each comes back, and has the error of the web if there is one.
func TestAnyArguments(t *testing.T) {
	d := rand.New(rand.NewSource(3))
	wild := func() int {
		return []int{0, 1, 2, 3, 5, 8, -1, 64, 65, 4096, 65535, 65536, math.MaxInt, math.MinInt, math.MaxInt32}[d.Intn(15)]
	}
	for range 3000 {
		w := thrownWeb(d, 4, 6, 20)
		if d.Intn(2) == 0 {
			spoil(d, w)
			w.Joints[d.Intn(len(w.Joints))].At.X = wild()
		}
		s := api.Side{Lead: wild(), Back: d.Intn(2) == 0}
		p := at(wild(), wild())
		edit := api.Edit{Kind: d.Intn(8), Joint: api.Joint{ID: wild(), At: p}, Lead: api.Lead{ID: wild()}, Other: wild()}
		if d.Intn(2) == 0 {
			edit.Lead.A, edit.Lead.B, edit.Lead.Cost = wild(), wild(), wild()
		}
		for name, got := range answers(w, s, edit, wild(), wild()) {
			if want, _ := wantCheck(w); want != api.OK && got != want {
				t.Error(name, w, got, want)
			}
		}
		sound := web.Sound(w)
		_, atSide := web.PaneAt(w, s)
		_, around := web.Neighbours(w, wild())
		_, between := web.Between(w, wild(), wild())
		_, there := web.Locate(w, p)
		for _, e := range []api.Errno{atSide, around, between, there} {
			if sound != api.OK && e != sound {
				t.Error(w, e, sound)
			}
		}
		panel := api.Panel{Web: w, Open: []int{wild(), wild()}, Pins: []api.Pin{{Joint: wild(), Play: wild()}}}
		if web.ValidPanel(panel) && sound != api.OK {
			t.Error(panel)
		}
	}
}

// answers returns the errors of the functions that need valid webs.
func answers(w api.Web, s api.Side, edit api.Edit, joint, lead int) map[string]api.Errno {
	out := map[string]api.Errno{}
	_, out["JointOf"] = web.JointOf(w, joint)
	_, out["LeadOf"] = web.LeadOf(w, lead)
	_, _, out["Ends"] = web.Ends(w, s)
	_, out["Flange"] = web.Flange(w, s)
	_, out["Around"] = web.Around(w, joint)
	_, out["Next"] = web.Next(w, s)
	_, out["Prior"] = web.Prior(w, s)
	_, out["Walk"] = web.Walk(w, s)
	_, out["Area"] = web.Area(w, s)
	_, out["Walks"] = web.Walks(w)
	_, out["Components"] = web.Components(w)
	_, out["Bridges"] = web.Bridges(w)
	_, out["Pinches"] = web.Pinches(w)
	_, out["Euler"] = web.Euler(w)
	_, out["Apply"] = web.Apply(w, edit)
	_, out["Inverse"] = web.Inverse(w, edit)
	return out
}

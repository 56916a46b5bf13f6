package plans_test

import (
	"math/rand"
	"reflect"
	"slices"
	"testing"

	"leadlight/api"
	"leadlight/leading"
	"leadlight/plans"
)

// TestMake is P8.3, checks J13 against all fillings with all liftings, and has the first part of P8.2.
func TestMake(t *testing.T) {
	for i, k := range samples() {
		want := plansOf()[i]
		p, e := plans.Make(k.Job)
		if want.e != api.OK {
			if e != want.e || !reflect.DeepEqual(p, api.Plan{}) {
				t.Error("Make without a plan", k.Job, p, e, want.e)
			}
			continue
		}
		if e != api.OK || p.Cost != want.cost || !slices.Equal(p.Filling, want.filling) || !slices.Equal(p.Set, want.set) {
			t.Error("Make", k.Job, p, e, want)
			continue
		}
		steps, _ := plans.Steps(k.Job, p.Filling, p.Set)
		positions, _ := plans.Closes(k.Job, p.Filling)
		cut, _ := plans.Glazes(k.Job, p.Filling)
		if !reflect.DeepEqual(p.Steps, steps) || !slices.Equal(p.Positions, positions) || !reflect.DeepEqual(p.Cutting, cut) {
			t.Error("the rest of a plan", k.Job, p)
		}
		if e := plans.CheckPlan(k.Job, p); e != api.OK {
			t.Error("CheckPlan", k.Job, p, e)
		}
	}
}

// TestMakeExamples has the chapter's examples of J13.
func TestMakeExamples(t *testing.T) {
	if p, e := plans.Make(example()); e != api.ErrGlass || !reflect.DeepEqual(p, api.Plan{}) {
		t.Error("Make", p, e)
	}
	p, e := plans.Make(planned())
	out, in := api.StepOut, api.StepIn
	steps := []api.Step{{Kind: out, Pane: 2}, {Kind: out, Pane: 1}, {Kind: in, Pane: 1}, {Kind: in, Pane: 2}}
	if e != api.OK || p.Cost != 62 || !slices.Equal(p.Filling, []api.Option{glazed(1, 1), fresh(1)}) || !slices.Equal(p.Set, []int{1, 2}) || !reflect.DeepEqual(p.Steps, steps) || !reflect.DeepEqual(p.Cutting, api.Cutting{}) {
		t.Error("Make", p, e)
	}
	if at, _ := leading.Close(api.Panel{Web: planned().Case.Web, Open: planned().Open, Pins: planned().Pins}, []api.Need{{Pane: 1}, {Pane: 2}}); !slices.Equal(p.Positions, at) {
		t.Error("Positions", p.Positions, at)
	}
}

// TestTies checks which one of several cheapest plans is made: that with the first filling, and then that with the first set.
func TestTies(t *testing.T) {
	j := empty(2)
	j.Case.Palette = 2
	j.Sheets = []api.Sheet{{ID: 1, Colour: 1, W: 9, H: 9}, {ID: 2, Colour: 2, W: 9, H: 9}}
	p, e := plans.Make(j)
	if e != api.OK || p.Cost != 76 || !slices.Equal(p.Filling, []api.Option{fresh(1), fresh(1)}) || !slices.Equal(p.Set, []int{1, 2}) {
		t.Error("the first filling", p, e)
	}
	j.Found = []api.Held{heldGlass(1, 1), heldGlass(2, 1)}
	for k := range j.Case.Web.Leads {
		j.Case.Web.Leads[k].Cost = 0
	}
	if p, e := plans.Make(j); e != api.OK || p.Cost != 0 || len(p.Set) != 0 || len(p.Steps) != 0 {
		t.Error("the first set", p, e)
	}
	j.Found = []api.Held{heldGlass(1, 2), heldGlass(2, 2)}
	if p, e := plans.Make(j); e != api.OK || p.Cost != 0 || len(p.Set) != 0 || !slices.Equal(p.Filling, []api.Option{fresh(2), fresh(2)}) {
		t.Error("as found", p, e)
	}
	j.New = 0
	if p, e := plans.Make(j); e != api.OK || p.Cost != 0 || !slices.Equal(p.Set, []int{1, 2}) || !slices.Equal(p.Filling, []api.Option{fresh(1), fresh(1)}) {
		t.Error("the first filling, as nothing costs anything", p, e)
	}
}

// TestTrouble checks that of several fillings the one that comes nearest to a plan tells the error.
func TestTrouble(t *testing.T) {
	// The piece is too wide for pane 1, and for new glass there is no sheet.
	wide := example()
	wide.Case.Pieces[0].Swell = 9
	wide.Case.Items = []api.Item{{ID: 7, Kind: api.ItemKept, Year: 1400, Piece: 1, Panes: []int{1}}}
	sheeted := wide
	sheeted.Sheets = sheets(1)
	shut := full()
	shut.Open = nil
	clash := planned()
	clash.Case.Items = append(clash.Case.Items, api.Item{ID: 8, Kind: api.ItemSurvivors, Year: 1400, Panes: []int{1}})
	either := wide
	either.Case.Items = nil
	for _, x := range []struct {
		name string
		j    api.Job
		e    api.Errno
	}{
		{"no filling agrees", clash, api.ErrAgree},
		{"none that agrees closes", wide, api.ErrClose},
		{"none that agrees closes, although there is glass", sheeted, api.ErrClose},
		{"one closes, but there is no glass", either, api.ErrGlass},
		{"there is no glass", example(), api.ErrGlass},
		{"nothing can be lifted", shut, api.ErrLift},
		{"too much new glass", empty(8), api.ErrGlass},
		{"7 new panes", empty(7), api.OK},
	} {
		if _, e := plans.Make(x.j); e != x.e {
			t.Error(x.name, e)
		}
	}
}

// TestAsFound is P8.6: if what was found agrees and closes, nothing has to be done.
func TestAsFound(t *testing.T) {
	as := 0
	for _, k := range samples() {
		for _, f := range k.fillings() {
			if e := k.wantJudge(f); e != api.OK && e != api.ErrGlass {
				continue
			}
			as++
			j := k.Job
			j.Found = wantHeld(f)
			if p, e := plans.Make(j); e != api.OK || p.Cost != 0 {
				t.Error("as found", j, p, e)
			}
			j.Turn, j.Move, j.New = 1+j.Turn, 1+j.Move, 1+j.New
			if p, e := plans.Make(j); e != api.OK || p.Cost != 0 || !slices.Equal(p.Filling, f) || len(p.Set) > 0 || len(p.Steps) > 0 {
				t.Error("nothing changes", j, p, e)
			}
			break
		}
	}
	if as < 50 {
		t.Error("few finds that agree", as)
	}
}

// costOf returns the cost of the cheapest plan, or NoPlan.
func costOf(j api.Job) int {
	p, e := plans.Make(j)
	if e != api.OK {
		return api.NoPlan
	}
	return p.Cost
}

// TestPrices is P8.7: greater prices do not make the cheapest plan cheaper, and more open leads not dearer.
func TestPrices(t *testing.T) {
	d := rand.New(rand.NewSource(7))
	dearer, cheaper := 0, 0
	for i, k := range samples() {
		cost := plansOf()[i].cost
		if plansOf()[i].e != api.OK {
			cost = api.NoPlan
		}
		dear := k.Job
		dear.Case.Web.Leads = slices.Clone(dear.Case.Web.Leads)
		switch d.Intn(4) {
		case 0:
			dear.Turn += 1 + d.Intn(9)
		case 1:
			dear.Move += 1 + d.Intn(9)
		case 2:
			dear.New += 1 + d.Intn(9)
		case 3:
			dear.Case.Web.Leads[d.Intn(len(dear.Case.Web.Leads))].Cost += 1 + d.Intn(9)
		}
		after := costOf(dear)
		if after < cost {
			t.Error("cheaper with greater prices", k.Job, dear, cost, after)
		}
		if after > cost {
			dearer++
		}
		open := k.Job
		open.Open = nil
		leads, _ := frame(open.Case.Web)
		for _, l := range leads {
			if d.Intn(2) == 0 || slices.Contains(k.Open, l) {
				open.Open = append(open.Open, l)
			}
		}
		after = costOf(open)
		if after > cost {
			t.Error("dearer with more open leads", k.Job, open, cost, after)
		}
		if after < cost {
			cheaper++
		}
	}
	if dearer < 10 || cheaper < 5 {
		t.Error("few changes", dearer, cheaper)
	}
}

// TestLimits checks the greatest jobs: 12 panes of which all can be lifted in any order, and as many fillings as there may be.
func TestLimits(t *testing.T) {
	j := empty(12)
	j.Case.Palette = 2
	for k := range 12 {
		if k < 6 {
			j.Found = append(j.Found, heldGlass(k+1, 2))
		}
	}
	leads, _ := frame(j.Case.Web)
	j.Open = leads
	// Six panes are empty; new glass of both colours costs the same.
	j.Sheets = append(j.Sheets, api.Sheet{ID: 2, Colour: 2, W: 99, H: 99})
	p, e := plans.Make(j)
	if e != api.OK || p.Cost != 6*3+10*19 || !slices.Equal(p.Set, []int{7, 8, 9, 10, 11, 12}) {
		t.Error("12 panes", p, e)
	}
	proof, cost, e := plans.Prove(j)
	if e != api.OK || cost != p.Cost {
		t.Error("Prove", cost, e)
	}
	if e, _ := plans.CheckProof(j, cost, proof); e != api.OK {
		t.Error("CheckProof", e)
	}
}

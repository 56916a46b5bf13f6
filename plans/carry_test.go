package plans_test

import (
	"math/rand"
	"reflect"
	"slices"
	"testing"

	"leadlight/api"
	"leadlight/leading"
	"leadlight/plans"
)

// workshop is a panel while steps are carried out: which panes are present, what they hold, and how many scores are made.
type workshop struct {
	known
	filling []api.Option
	scores  []api.Score
	present map[int]bool
	holds   map[int]api.Held
	made    int
}

// open returns the workshop at first.
func (k known) open(f []api.Option) *workshop {
	cut, _ := k.wantCutting(all(f))
	w := &workshop{known: k, filling: f, scores: cut.Scores, present: map[int]bool{}, holds: map[int]api.Held{}}
	for pane := range len(k.panes) {
		w.present[pane+1] = true
	}
	for _, h := range k.Found {
		w.holds[h.Pane] = h
	}
	return w
}

// isFree reports whether a pane is free among the present ones.
func (w *workshop) isFree(pane int) bool {
	var present []int
	for id := 1; id <= len(w.panes); id++ {
		if w.present[id] {
			present = append(present, id)
		}
	}
	frees, _ := leading.Frees(w.panel, present)
	return slices.Contains(frees, pane)
}

// do carries out a step, if it can be.
func (w *workshop) do(x api.Step) bool {
	none := reflect.DeepEqual(x.Score, api.Score{}) || reflect.DeepEqual(x.Score, api.Score{Points: []api.Point{}})
	switch x.Kind {
	case 1:
		if !none || !w.isFree(x.Pane) {
			return false
		}
		delete(w.present, x.Pane)
		delete(w.holds, x.Pane)
		return true
	case 2:
		if x.Pane != 0 || w.made == len(w.scores) || !reflect.DeepEqual(x.Score, w.scores[w.made]) {
			return false
		}
		w.made++
		return true
	case 3:
		return none && w.putIn(x.Pane)
	}
	return false
}

// putIn puts in the option of a pane, if it can be.
func (w *workshop) putIn(pane int) bool {
	if pane < 1 || pane > len(w.panes) || w.present[pane] {
		return false
	}
	o := w.filling[pane-1]
	for _, h := range w.holds {
		if o.Piece > 0 && h.Piece == o.Piece {
			return false
		}
	}
	if w.wantChange(pane, o) == 3 && w.made < len(w.scores) {
		return false
	}
	w.present[pane] = true
	if !w.isFree(pane) {
		return false
	}
	w.holds[pane] = wantHeld(w.filling)[pane-1]
	return true
}

// carried returns the index of the first step that cannot be carried out, or -1, and what the panes hold in the end.
func (k known) carried(f []api.Option, steps []api.Step) (int, []api.Held) {
	w := k.open(f)
	for at, x := range steps {
		if !w.do(x) {
			return at, nil
		}
	}
	var held []api.Held
	for pane := 1; pane <= len(k.panes); pane++ {
		if h, is := w.holds[pane]; is {
			held = append(held, h)
		}
	}
	return -1, held
}

// TestSteps checks J14 against its rule.
func TestSteps(t *testing.T) {
	count := map[api.Errno]int{}
	d := rand.New(rand.NewSource(2))
	for _, k := range samples() {
		every := k.fillings()
		f := every[d.Intn(len(every))]
		cut, ok := k.wantCutting(all(f))
		for _, set := range someSets(k) {
			want := api.OK
			if !ok {
				want = api.ErrGlass
			} else if !k.wantLifting(f, set) {
				want = api.ErrLift
			}
			count[want]++
			steps, e := plans.Steps(k.Job, f, set)
			if e != want || e != api.OK && len(steps) != 0 {
				t.Error("Steps", k.Job, f, set, steps, e)
			}
			if want == api.OK && !reflect.DeepEqual(steps, k.wantSteps(set, cut.Scores)) {
				t.Error("Steps", k.Job, f, set, steps)
			}
		}
	}
	if count[api.OK] < 100 || count[api.ErrGlass] < 100 || count[api.ErrLift] < 100 {
		t.Error("few kinds", count)
	}
}

// wantSteps is rule J14.
func (k known) wantSteps(set []int, scores []api.Score) []api.Step {
	var out []api.Step
	taking, _ := leading.Taking(k.panel, set)
	for _, pane := range taking {
		out = append(out, api.Step{Kind: api.StepOut, Pane: pane})
	}
	for _, s := range scores {
		out = append(out, api.Step{Kind: api.StepCut, Score: s})
	}
	for _, pane := range slices.Backward(taking) {
		out = append(out, api.Step{Kind: api.StepIn, Pane: pane})
	}
	return out
}

// thrownSteps throws steps: right ones that are changed a little, or such of which most can be carried out.
func (k known) thrownSteps(d *rand.Rand, f []api.Option) []api.Step {
	cut, _ := k.wantCutting(all(f))
	if d.Intn(2) == 0 {
		steps := k.wantSteps(k.sets[d.Intn(len(k.sets))], cut.Scores)
		for range d.Intn(3) {
			steps = changedSteps(d, steps)
		}
		return steps
	}
	var steps []api.Step
	scores := cut.Scores
	for range 1 + d.Intn(12) {
		x := api.Step{Kind: 1 + 2*d.Intn(2), Pane: 1 + d.Intn(len(k.panes))}
		if d.Intn(4) == 0 && len(scores) > 0 {
			x = api.Step{Kind: api.StepCut, Score: scores[0]}
			scores = scores[1:]
		}
		longer := append(slices.Clone(steps), x)
		if stop, _ := k.carried(f, longer); stop < 0 || d.Intn(20) == 0 {
			steps = longer
		}
	}
	return steps
}

// changedSteps changes something in steps.
func changedSteps(d *rand.Rand, steps []api.Step) []api.Step {
	if len(steps) == 0 {
		return []api.Step{{Kind: d.Intn(5), Pane: d.Intn(3)}}
	}
	steps = slices.Clone(steps)
	i, k := d.Intn(len(steps)), d.Intn(len(steps))
	x := &steps[i]
	switch d.Intn(10) {
	case 0, 1:
		return slices.Delete(steps, i, i+1)
	case 2, 3:
		steps[i], steps[k] = steps[k], steps[i]
	case 4:
		return slices.Insert(steps, i, steps[k])
	case 5:
		x.Kind = []int{-1, 0, 1, 2, 3, 4}[d.Intn(6)]
	case 6:
		x.Pane = append(extremes(), -1, 0, 1, 2, 3, 99)[d.Intn(10)]
	case 7:
		x.Score.Want += 1 - 2*d.Intn(2)
	case 8:
		x.Score.Points = append(slices.Clone(x.Score.Points), at(0, 0))
	case 9:
		x.Score.Sheet, x.Score.Kind = d.Intn(3), d.Intn(3)
	}
	return steps
}

// TestCarry checks J15 against its table, with thrown steps.
func TestCarry(t *testing.T) {
	d := rand.New(rand.NewSource(1))
	count := map[api.Errno]int{}
	again := 0
	for _, k := range samples() {
		every := k.fillings()
		for range 6 {
			f := every[d.Intn(len(every))]
			steps := k.thrownSteps(d, f)
			held, e, at := plans.Carry(k.Job, f, steps)
			count[e]++
			if _, ok := k.wantCutting(all(f)); !ok {
				if e != api.ErrGlass || at != 0 || len(held) != 0 {
					t.Error("Carry without glass", k.Job, f, steps, held, e, at)
				}
				continue
			}
			stop, want := k.carried(f, steps)
			if stop >= 0 && (e != api.ErrStep || at != stop || len(held) != 0) || stop < 0 && (e != api.OK || at != 0 || !slices.Equal(held, want)) {
				t.Error("Carry", k.Job, f, steps, held, e, at, stop, want)
			}
			if stop > 1 {
				again++
			}
		}
	}
	if count[api.OK] < 100 || count[api.ErrGlass] < 100 || count[api.ErrStep] < 100 || again < 50 {
		t.Error("few kinds", count, again)
	}
}

// TestCarryExamples checks what the panes hold, and steps that cannot be carried out, one by one.
func TestCarryExamples(t *testing.T) {
	f := []api.Option{glazed(1, 1), fresh(1)}
	out := func(pane int) api.Step { return api.Step{Kind: api.StepOut, Pane: pane} }
	in := func(pane int) api.Step { return api.Step{Kind: api.StepIn, Pane: pane} }
	cut := api.Step{Kind: api.StepCut}
	scored := api.Step{Kind: api.StepOut, Pane: 2, Score: api.Score{Kind: 1}}
	for _, x := range []struct {
		name  string
		steps []api.Step
		held  []api.Held
		e     api.Errno
		at    int
	}{
		{"nothing is done", nil, []api.Held{heldGlass(1, 2), heldGlass(2, 1)}, api.OK, 0},
		{"one is out", []api.Step{out(2)}, []api.Held{heldGlass(1, 2)}, api.OK, 0},
		{"both are out", []api.Step{out(2), out(1)}, nil, api.OK, 0},
		{"the plan", []api.Step{out(2), out(1), in(1), in(2)}, []api.Held{heldPiece(1, 1), heldGlass(2, 1)}, api.OK, 0},
		{"one comes back, and goes out again", []api.Step{out(2), in(2), out(2), out(1), in(1), out(1)}, nil, api.OK, 0},
		{"in the wrong order", []api.Step{out(1)}, nil, api.ErrStep, 0},
		{"back in the wrong order", []api.Step{out(2), out(1), in(2), in(1)}, nil, api.ErrStep, 3},
		{"out twice", []api.Step{out(2), out(2)}, nil, api.ErrStep, 1},
		{"in without being out", []api.Step{out(2), in(1)}, nil, api.ErrStep, 1},
		{"no scores", []api.Step{cut}, nil, api.ErrStep, 0},
		{"a score of a pane", []api.Step{scored}, nil, api.ErrStep, 0},
		{"no pane", []api.Step{out(0)}, nil, api.ErrStep, 0},
		{"no such pane", []api.Step{out(2), in(3)}, nil, api.ErrStep, 1},
		{"no such kind", []api.Step{out(2), {Pane: 1}}, nil, api.ErrStep, 1},
		{"an empty list of points", []api.Step{{Kind: api.StepOut, Pane: 2, Score: api.Score{Points: []api.Point{}}}}, []api.Held{heldGlass(1, 2)}, api.OK, 0},
	} {
		if held, e, at := plans.Carry(planned(), f, x.steps); !slices.Equal(held, x.held) || e != x.e || at != x.at {
			t.Error(x.name, held, e, at)
		}
	}
	// A piece that is still in another pane cannot be put in.
	swap := planned()
	swap.Found = []api.Held{heldPiece(2, 1)}
	swap.Open = []int{1, 2, 3, 4, 5}
	swap.Sheets = sheets(1)
	if _, e, at := plans.Carry(swap, f, []api.Step{out(1), in(1)}); e != api.ErrStep || at != 1 {
		t.Error("the piece is in pane 2", e, at)
	}
	if held, e, _ := plans.Carry(swap, f, []api.Step{out(1), out(2), in(1)}); e != api.OK || !slices.Equal(held, []api.Held{heldPiece(1, 1)}) {
		t.Error("the piece was in pane 2", held, e)
	}
	if _, e, at := plans.Carry(swap, f, []api.Step{out(1), out(2), in(1), in(2)}); e != api.ErrStep || at != 3 {
		t.Error("pane 2 is not cut yet", e, at)
	}
	if _, e, at := plans.Carry(planned(), []api.Option{fresh(1), fresh(1)}, []api.Step{out(1)}); e != api.ErrGlass || at != 0 {
		t.Error("no glass", e, at)
	}
}

// TestPlansAreCarriedOut is P8.2: the steps of an accepted plan come to its filling, and what is not in its set stays.
func TestPlansAreCarriedOut(t *testing.T) {
	for _, k := range samples() {
		p, e := plans.Make(k.Job)
		if e != api.OK {
			continue
		}
		held, e, _ := plans.Carry(k.Job, p.Filling, p.Steps)
		if stop, want := k.carried(p.Filling, p.Steps); e != api.OK || stop >= 0 || !slices.Equal(held, want) || !slices.Equal(held, wantHeld(p.Filling)) {
			t.Error("the steps of a plan", k.Job, p, held, e)
		}
		for _, h := range held {
			if was, _ := k.foundIn(h.Pane); h != was && !slices.Contains(p.Set, h.Pane) {
				t.Error("a pane that was not lifted", k.Job, p, h)
			}
		}
	}
}

// wantCorrect is rule J16.
func (k known) wantCorrect(p api.Plan) bool {
	if len(p.Filling) != len(k.panes) {
		return false
	}
	for i, o := range p.Filling {
		if !slices.Contains(k.options[i], o) {
			return false
		}
	}
	if k.wantJudge(p.Filling) != api.OK || !k.wantLifting(p.Filling, p.Set) || p.Cost != k.wantPrice(p.Filling)+k.wantLeads(p.Set) {
		return false
	}
	cut, _ := k.wantCutting(all(p.Filling))
	keeps, _ := leading.Keeps(k.panel, k.wantNeeds(all(p.Filling)), p.Positions)
	stop, held := k.carried(p.Filling, p.Steps)
	var taken []int
	for _, x := range p.Steps {
		if x.Kind == 1 {
			taken = append(taken, x.Pane)
		}
	}
	slices.Sort(taken)
	return reflect.DeepEqual(p.Cutting, cut) && keeps && stop < 0 && slices.Equal(held, wantHeld(p.Filling)) && slices.Equal(taken, p.Set)
}

// thrownPlan throws a plan of a filling with a lifting, of which now and then something is wrong.
func (k known) thrownPlan(d *rand.Rand, f []api.Option) api.Plan {
	set := k.sets[d.Intn(len(k.sets))]
	cut, _ := k.wantCutting(all(f))
	p := api.Plan{Cost: k.wantPrice(f) + k.wantLeads(set), Filling: slices.Clone(f), Set: slices.Clone(set), Steps: k.wantSteps(set, cut.Scores), Cutting: cut}
	p.Positions, _ = leading.Close(k.panel, k.wantNeeds(all(f)))
	if len(p.Positions) == 0 {
		p.Positions, _ = leading.Close(k.panel, nil)
	}
	switch d.Intn(16) {
	case 0:
		p.Cost += 1 - 2*d.Intn(2)
	case 1:
		p.Steps = changedSteps(d, p.Steps)
	case 2:
		i := d.Intn(len(f))
		p.Filling[i] = k.options[i][d.Intn(len(k.options[i]))]
	case 3:
		p.Filling = p.Filling[1:]
	case 4:
		p.Filling[0].Colour = 17
	case 5:
		p.Set = part(d, len(k.panes))
	case 6:
		p.Cutting.Area++
	case 7:
		p.Cutting.Placed = append(slices.Clone(p.Cutting.Placed), api.Placed{})
	case 8:
		p.Cutting.Scores = append(slices.Clone(p.Cutting.Scores), api.Score{})
	case 9:
		p.Positions[d.Intn(len(p.Positions))].At.X += 1 + d.Intn(3)
	case 10:
		p.Positions[d.Intn(len(p.Positions))].At.Y -= d.Intn(3)
	case 11:
		p.Positions = p.Positions[1:]
	}
	return p
}

// TestCheckPlan checks J16 against its rule, with plans that others make, also dearer ones.
func TestCheckPlan(t *testing.T) {
	d := rand.New(rand.NewSource(6))
	good, bad, dearer := 0, 0, 0
	for i, k := range samples() {
		for _, f := range someFillings(k) {
			if plansOf()[i].e == api.OK && d.Intn(2) == 0 {
				f = plansOf()[i].filling
			}
			p := k.thrownPlan(d, f)
			e := plans.CheckPlan(k.Job, p)
			if k.wantCorrect(p) != (e == api.OK) || e != api.OK && e != api.ErrPlan {
				t.Error("CheckPlan", k.Job, p, e)
			}
			if e != api.OK {
				bad++
				continue
			}
			good++
			if p.Cost < plansOf()[i].cost {
				t.Error("a cheaper plan", k.Job, p, plansOf()[i])
			}
			if p.Cost > plansOf()[i].cost {
				dearer++
			}
		}
	}
	if good < 60 || bad < 60 || dearer < 20 {
		t.Error("few plans", good, bad, dearer)
	}
}

// TestCheckPlanParts checks that each part of a plan counts.
func TestCheckPlanParts(t *testing.T) {
	j := planned()
	j.Found[1].Colour = 2
	j.Sheets = []api.Sheet{{ID: 1, Colour: 1, W: 5, H: 6}, {ID: 2, Colour: 2, W: 5, H: 6}}
	j.New = 1
	f := []api.Option{glazed(1, 1), fresh(1)}
	right := func() api.Plan {
		p := api.Plan{Filling: slices.Clone(f), Set: []int{1, 2}}
		p.Cost, _ = plans.Cost(j, f, p.Set)
		p.Steps, _ = plans.Steps(j, f, p.Set)
		p.Positions, _ = plans.Closes(j, f)
		p.Cutting, _ = plans.Glazes(j, f)
		return p
	}
	if e := plans.CheckPlan(j, right()); e != api.OK {
		t.Fatal("a right plan that is not the cheapest", e)
	}
	if p, _ := plans.Make(j); p.Cost >= right().Cost {
		t.Error("no dearer plan", p.Cost, right().Cost)
	}
	for name, change := range map[string]func(p *api.Plan){
		"no cost":                   func(p *api.Plan) { p.Cost = 0 },
		"a lower cost":              func(p *api.Plan) { p.Cost-- },
		"a higher cost":             func(p *api.Plan) { p.Cost++ },
		"no filling":                func(p *api.Plan) { p.Filling = nil },
		"no options":                func(p *api.Plan) { p.Filling = []api.Option{{}, {}} },
		"another filling":           func(p *api.Plan) { p.Filling[1] = fresh(2) },
		"a filling that disagrees":  func(p *api.Plan) { p.Filling[0] = fresh(2) },
		"no set":                    func(p *api.Plan) { p.Set = nil },
		"a set without a pane":      func(p *api.Plan) { p.Set = []int{2} },
		"a set that does not rise":  func(p *api.Plan) { p.Set = []int{2, 1} },
		"a set that is none":        func(p *api.Plan) { p.Set = []int{1, 2, 3} },
		"no steps":                  func(p *api.Plan) { p.Steps = nil },
		"a step more":               func(p *api.Plan) { p.Steps = append(p.Steps, api.Step{Kind: api.StepOut, Pane: 2}) },
		"a step less":               func(p *api.Plan) { p.Steps = p.Steps[:len(p.Steps)-1] },
		"out once more, and in":     func(p *api.Plan) { p.Steps = append(p.Steps, p.Steps[0], p.Steps[len(p.Steps)-1]) },
		"a score less":              func(p *api.Plan) { p.Steps = slices.Delete(p.Steps, 2, 3) },
		"no positions":              func(p *api.Plan) { p.Positions = nil },
		"a position that is afar":   func(p *api.Plan) { p.Positions[3].At.X = 60 },
		"no cutting":                func(p *api.Plan) { p.Cutting = api.Cutting{} },
		"another area":              func(p *api.Plan) { p.Cutting.Area-- },
		"another place":             func(p *api.Plan) { p.Cutting.Placed[0].At.X++ },
		"another score":             func(p *api.Plan) { p.Cutting.Scores[0].Points[0].X++ },
		"another score of a cut":    func(p *api.Plan) { p.Steps[2].Score.Points[0].X++ },
		"a score less in the whole": func(p *api.Plan) { p.Cutting.Scores = p.Cutting.Scores[1:] },
	} {
		p := right()
		change(&p)
		if e := plans.CheckPlan(j, p); e != api.ErrPlan {
			t.Error(name, e)
		}
	}
	p := right()
	p.Positions, _ = leading.Close(api.Panel{Web: j.Case.Web, Pins: []api.Pin{{Joint: 1}}}, nil)
	if e := plans.CheckPlan(j, p); e != api.OK {
		t.Error("other positions that keep all bounds", e)
	}
}

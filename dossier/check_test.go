package dossier_test

import (
	"reflect"
	"slices"
	"testing"

	"leadlight/api"
	"leadlight/dossier"
	"leadlight/leading"
	"leadlight/places"
	"leadlight/plans"
)

// rising reports whether numbers strictly rise.
func rising(l []int) bool {
	for i := 1; i < len(l); i++ {
		if l[i-1] >= l[i] {
			return false
		}
	}
	return true
}

// wantFindings is the table of Check, row by row.
func wantFindings(d api.Dossier) []api.Finding {
	if plans.Check(d.Job) != api.OK {
		return []api.Finding{{Kind: 1}}
	}
	p := problemOf(d.Job)
	count, _, e := places.Check(p, d.Survey)
	if e != api.OK {
		return []api.Finding{{Kind: 2}}
	}
	var out []api.Finding
	say := func(kind, index int, wrong bool) {
		if wrong {
			out = append(out, api.Finding{Kind: kind, Index: index})
		}
	}
	if count == 0 {
		unnamed := len(d.Clash) == 0 || !rising(d.Clash) || slices.ContainsFunc(d.Clash, func(n int) bool { return !slices.Contains(itemsOf(p), n) })
		say(3, 0, unnamed)
		if !unnamed {
			alone, _ := places.Only(p, d.Clash)
			n, _, e := places.Check(alone, d.Alone)
			say(3, 1, e != api.OK || n != 0)
			say(3, 2, !sound(p, d.Hits) || !spares(p, len(d.Clash), d.Hits))
		}
	} else {
		say(3, 0, len(d.Clash)+len(d.Hits) > 0 || !sameValue(d.Alone, api.Node{}))
	}
	at, wrong := wrongChoice(d, p)
	say(4, at, wrong)
	say(5, 0, d.Trouble == api.OK && plans.CheckPlan(d.Job, d.Plan) != api.OK || d.Trouble != api.OK && !sameValue(d.Plan, api.Plan{}))
	say(5, 1, d.Trouble != api.OK && d.Trouble != wantTrouble(d.Job, p))
	bound := d.Plan.Cost
	if d.Trouble != api.OK {
		bound = 1 << 40
	}
	if count == 0 {
		say(6, 0, d.Bound != 0 || !sameValue(d.Proof, api.Proof{}))
	} else {
		e, _ := plans.CheckProof(d.Job, d.Bound, d.Proof)
		say(6, 0, d.Bound != bound || e != api.OK)
	}
	return out
}

// wrongChoice is the row of FindChoice.
func wrongChoice(d api.Dossier, p api.Problem) (int, bool) {
	var want []api.Choice
	fillings := agreeing(p)
	for i, l := range p.Options {
		for k, o := range l {
			if slices.ContainsFunc(fillings, func(f []int) bool { return f[i] == k }) {
				want = append(want, api.Choice{Pane: i + 1, Option: o, Witness: []int{i, k}})
			}
		}
	}
	for n, x := range d.Choices {
		if n == len(want) || x.Pane != want[n].Pane || x.Option != want[n].Option {
			return n, true
		}
		if agrees, _ := places.Agrees(p, x.Witness); !agrees || x.Witness[want[n].Witness[0]] != want[n].Witness[1] {
			return n, true
		}
	}
	return len(d.Choices), len(d.Choices) < len(want)
}

// wantTrouble is the trouble of a job that has no plan.
func wantTrouble(j api.Job, p api.Problem) api.Errno {
	fillings := agreeing(p)
	if len(fillings) == 0 {
		return api.ErrAgree
	}
	e := api.ErrClose
	for _, f := range fillings {
		switch verdict(j, p, f) {
		case api.OK:
			return api.ErrLift
		case api.ErrGlass:
			e = api.ErrGlass
		}
	}
	return e
}

// change changes a value a little.
func (d thrower) change(v reflect.Value) {
	switch v.Kind() {
	case reflect.Int:
		n := v.Int()
		v.SetInt([]int64{0, 1, n + 1, n - 1, n + 2, -n, 1 << 40, int64(extremes()[d.Intn(5)])}[d.Intn(8)])
	case reflect.Bool:
		v.SetBool(!v.Bool())
	case reflect.Struct:
		d.change(v.Field(d.Intn(v.NumField())))
	case reflect.Slice:
		n := v.Len()
		switch k := d.Intn(9); {
		case n == 0 || k == 0:
			v.Set(reflect.Append(v, reflect.Zero(v.Type().Elem())))
		case k == 1:
			i := d.Intn(n)
			v.Set(reflect.AppendSlice(v.Slice(0, i), v.Slice(i+1, n)))
		case k == 2:
			v.Set(reflect.Append(v, v.Index(d.Intn(n))))
		case k == 3:
			reflect.Swapper(v.Interface())(d.Intn(n), d.Intn(n))
		default:
			d.change(v.Index(d.Intn(n)))
		}
	}
}

// damaged returns a dossier that is changed a little, each of its fields as often as the others.
func (d thrower) damaged(x api.Dossier) api.Dossier {
	x = plain(x)
	for range 1 + d.Intn(2) {
		v := reflect.ValueOf(&x).Elem()
		d.change(v.Field(d.Intn(v.NumField())))
	}
	return x
}

// TestCheck checks dossiers that are right, that are changed, and that are put together of those of different jobs. Of those in which nothing is found P10.3 holds.
func TestCheck(t *testing.T) {
	t.Parallel()
	d := throw(13)
	count := map[api.Finding]int{}
	see := func(x api.Dossier) {
		got, want := dossier.Check(x), wantFindings(x)
		if !slices.Equal(got, want) {
			t.Fatal("Check", x, got, want)
		}
		for _, f := range got {
			f.Index = min(f.Index, 3)
			count[f]++
		}
		if len(got) == 0 {
			count[api.Finding{}]++
			if count[api.Finding{}]%3 == 0 {
				tellsTruth(t, x)
			}
		}
	}
	for k, x := range built() {
		see(x)
		for range 8 {
			see(d.damaged(x))
		}
		other := built()[(k+1)%len(built())]
		for range 4 {
			y, z := plain(x), reflect.ValueOf(other)
			i := 1 + d.Intn(z.NumField()-1)
			reflect.ValueOf(&y).Elem().Field(i).Set(z.Field(i))
			see(y)
		}
		for e := api.OK; e <= api.ErrLift; e++ {
			if e > api.ErrNone && e < api.ErrJob {
				continue
			}
			y := plain(x)
			y.Trouble = e
			see(y)
			y.Plan, y.Bound = api.Plan{}, api.NoPlan
			see(y)
		}
	}
	for _, f := range []api.Finding{{}, {Kind: 1}, {Kind: 2}, {Kind: 3}, {Kind: 3, Index: 1}, {Kind: 3, Index: 2}, {Kind: 4}, {Kind: 4, Index: 1}, {Kind: 4, Index: 3}, {Kind: 5}, {Kind: 5, Index: 1}, {Kind: 6}} {
		if count[f] < 10 {
			t.Error("few findings", f, count)
		}
	}
}

// TestCheckNothing checks the dossier in which there is nothing, and the first findings alone.
func TestCheckNothing(t *testing.T) {
	for _, x := range []struct {
		d    api.Dossier
		want api.Finding
	}{
		{api.Dossier{}, api.Finding{Kind: api.FindJob}},
		{api.Dossier{Job: example()}, api.Finding{Kind: api.FindSurvey}},
	} {
		if l := dossier.Check(x.d); !slices.Equal(l, []api.Finding{x.want}) {
			t.Error("Check", l, x.want)
		}
	}
	d := build(t, example())
	d.Choices, d.Plan, d.Proof, d.Bound = nil, api.Plan{}, api.Proof{}, 0
	if l := dossier.Check(d); !slices.Equal(l, []api.Finding{{Kind: api.FindChoice}, {Kind: api.FindPlan}, {Kind: api.FindProof}}) {
		t.Error("a survey alone", l)
	}
}

// otherwise returns a dossier that is right, too, but was made in another way.
func otherwise(x api.Dossier) api.Dossier {
	x = plain(x)
	p := problemOf(x.Job)
	x.Survey = fullSurvey(p, nil)
	fillings := agreeing(p)
	for k := range x.Choices {
		c := &x.Choices[k]
		for _, f := range fillings {
			if p.Options[c.Pane-1][f[c.Pane-1]] == c.Option {
				c.Witness = f // the last one
			}
		}
	}
	if len(x.Clash) > 0 {
		none, _ := places.Only(p, nil)
		x.Hits = agreeing(none)
		alone, _ := places.Only(p, x.Clash)
		x.Alone = fullSurvey(alone, nil)
	}
	if n := len(p.Panes); len(fillings) > 0 && n > 0 {
		x.Proof = branched(p, x.Proof)
	}
	return x
}

// branched returns a proof with the same proof below each option of the first pane, if it does not choose one there, and else the proof itself.
func branched(p api.Problem, x api.Proof) api.Proof {
	if x.Kind != api.ProofCost && x.Kind != api.ProofStuck {
		return x
	}
	out := api.Proof{Kind: api.ProofBranch}
	for range p.Options[0] {
		out.Kids = append(out.Kids, x)
	}
	return out
}

// fullSurvey returns the lawful survey that ends no sooner than at whole fillings.
func fullSurvey(p api.Problem, f []int) api.Node {
	if len(f) < len(p.Panes) {
		n := api.Node{Kind: api.NodeBranch, Index: len(f)}
		for k := range p.Options[len(f)] {
			n.Kids = append(n.Kids, fullSurvey(p, append(slices.Clone(f), k)))
		}
		return n
	}
	if agrees, _ := places.Agrees(p, f); agrees {
		return api.Node{Kind: api.NodeAgree}
	}
	if broken, _ := places.Breaks(p, f); len(broken) > 0 {
		return api.Node{Kind: api.NodeRule, Index: broken[len(broken)-1]}
	}
	// A piece that is used twice must have been seen one pane sooner, unless the last pane has it.
	last := len(f) - 1
	for i := range last {
		a, b := p.Options[i][f[i]].Piece, p.Options[last][f[last]].Piece
		if a == b && a > 0 {
			return api.Node{Kind: api.NodeTwice, Index: i}
		}
	}
	return api.Node{}
}

// TestRightDossiers is P10.2 and P10.3: in what Build returns nothing is found, and in what is right but made otherwise neither; of both the answers are the same.
func TestRightDossiers(t *testing.T) {
	t.Parallel()
	others := 0
	for _, x := range built() {
		kept := plain(x)
		b, _ := dossier.Encode(x)
		back, _ := dossier.Decode(b)
		for _, d := range []api.Dossier{x, back} {
			if l := dossier.Check(d); len(l) > 0 {
				t.Fatal("Check of Build", x, l)
			}
		}
		if !sameValue(x, kept) {
			t.Fatal("Check changes a dossier", x)
		}
		y := otherwise(x)
		if len(dossier.Check(y)) > 0 {
			// Where a piece is twice in the first panes, there is no full survey.
			y.Survey = x.Survey
			y.Alone = x.Alone
		} else if !sameValue(x, y) {
			others++
		}
		if l := dossier.Check(y); len(l) > 0 {
			t.Fatal("Check of what is right", y, l)
		}
		for _, d := range []api.Dossier{x, y} {
			tellsTruth(t, d)
		}
	}
	if others < 100 {
		t.Error("few others", others)
	}
}

// tellsTruth checks what P10.3 says of a dossier in which nothing is found.
func tellsTruth(t *testing.T, d api.Dossier) {
	t.Helper()
	p := problemOf(d.Job)
	fillings := agreeing(p)
	for i, l := range p.Options {
		var want []api.Option
		for k, o := range l {
			if slices.ContainsFunc(fillings, func(f []int) bool { return f[i] == k }) {
				want = append(want, o)
			}
		}
		got, _ := dossier.Content(d, i+1)
		if !slices.Equal(got, want) {
			t.Fatal("Content", d, i+1, got, want)
		}
		forced, _ := dossier.Forced(d)
		if is := slices.ContainsFunc(forced, func(h api.Held) bool { return h.Pane == i+1 }); is != (len(want) == 1) {
			t.Fatal("Forced", d, i+1, forced)
		}
	}
	for _, piece := range d.Job.Case.Pieces {
		panes, nowhere, _ := dossier.Place(d, piece.ID)
		want, without, _ := places.Where(p, piece.ID)
		if !slices.Equal(panes, want) || nowhere != without {
			t.Fatal("Place", d, piece.ID, panes, nowhere, want, without)
		}
	}
	if (len(d.Clash) > 0) != (len(fillings) == 0) {
		t.Fatal("Clash", d)
	}
	for _, set := range setsOf(p) {
		some, _ := places.Only(p, set)
		if n, _ := places.Count(some); n == 0 && len(set) < len(d.Clash) {
			t.Fatal("a smaller set clashes", d, set)
		}
	}
	if len(fillings) <= 200 {
		truePlan(t, d, fillings)
	}
}

// truePlan checks what P10.3 says of the plan.
func truePlan(t *testing.T, d api.Dossier, fillings [][]int) {
	t.Helper()
	p, cheapest := problemOf(d.Job), api.NoPlan
	for _, f := range fillings {
		// Of a whole filling, Lower is what it costs with its cheapest lifting.
		cost, e := plans.Lower(d.Job, optionsOf(p, f))
		if e == api.OK && cost < cheapest && verdict(d.Job, p, f) == api.OK {
			cheapest = cost
		}
	}
	if d.Trouble != api.OK {
		if cheapest < api.NoPlan {
			t.Fatal("there is a plan", d)
		}
		return
	}
	held, e, _ := plans.Carry(d.Job, d.Plan.Filling, d.Plan.Steps)
	target, f := dossier.Target(d)
	if e != api.OK || f != api.OK || !slices.Equal(held, target) || cheapest != d.Plan.Cost {
		t.Fatal("the plan", d, held, target, cheapest)
	}
}

// dearer returns a right plan of a job that costs more than another one, if there is one.
func dearer(d api.Dossier) (api.Plan, bool) {
	p := problemOf(d.Job)
	sets, _ := plans.Sets(d.Job)
	panel, _ := plans.Panel(d.Job)
	for _, f := range agreeing(p) {
		l := optionsOf(p, f)
		for _, set := range sets {
			cost, e := plans.Cost(d.Job, l, set)
			if e != api.OK || cost <= d.Plan.Cost || verdict(d.Job, p, f) != api.OK {
				continue
			}
			x := api.Plan{Cost: cost, Filling: l, Set: set}
			x.Steps, _ = plans.Steps(d.Job, l, set)
			x.Cutting, _ = plans.Glazes(d.Job, l)
			needs, _ := plans.Needs(d.Job, l)
			x.Positions, _ = leading.Close(panel, needs)
			return x, true
		}
	}
	return api.Plan{}, false
}

// TestDearerPlans checks that a plan that costs more than another one is found by its proof alone.
func TestDearerPlans(t *testing.T) {
	n := 0
	for _, x := range built() {
		if x.Trouble != api.OK {
			continue
		}
		plan, is := dearer(x)
		if !is {
			continue
		}
		n++
		x = plain(x)
		x.Plan = plan
		if l := dossier.Check(x); !slices.Equal(l, []api.Finding{{Kind: api.FindProof}}) {
			t.Error("a dearer plan with the bound of the cheapest one", l)
		}
		x.Bound = plan.Cost
		if l := dossier.Check(x); !slices.Equal(l, []api.Finding{{Kind: api.FindProof}}) {
			t.Error("a dearer plan with the proof of the cheapest one", l)
		}
	}
	if n < 40 {
		t.Error("few plans", n)
	}
}

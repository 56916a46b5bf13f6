package plans_test

import (
	"math/rand"
	"reflect"
	"slices"
	"testing"

	"leadlight/api"
	"leadlight/evidence"
	"leadlight/leading"
	"leadlight/places"
	"leadlight/plans"
)

// TestLeastDisturbance is P0.7: the plan can be carried out, piece by piece and score by score; it ends in a filling that agrees, in a panel that closes; and no such plan costs less.
func TestLeastDisturbance(t *testing.T) {
	made, cut := 0, 0
	for _, k := range samples() {
		p, e := plans.Make(k.Job)
		if e != api.OK {
			continue
		}
		made++
		w := k.open(p.Filling)
		for at, x := range p.Steps {
			if !w.do(x) {
				t.Fatal("a step that cannot be carried out", k.Job, p, at)
			}
		}
		if w.made != len(w.scores) || len(w.holds) != len(k.panes) {
			t.Error("something is not done", k.Job, p)
		}
		if w.made > 0 {
			cut++
		}
		problem, _ := evidence.Compile(k.Case, k.Year)
		f, _ := evidence.Filling(k.Case, k.Year, p.Filling)
		if agrees, e := places.Agrees(problem, f); !agrees || e != api.OK {
			t.Error("a filling that does not agree", k.Job, p, e)
		}
		if keeps, e := leading.Keeps(k.panel, k.wantNeeds(all(p.Filling)), p.Positions); !keeps || e != api.OK {
			t.Error("a panel that does not close", k.Job, p, e)
		}
		for _, f := range k.fillings() {
			if k.wantJudge(f) != api.OK {
				continue
			}
			for _, set := range k.sets {
				if contains(set, k.wantChanged(f)) && k.wantPrice(f)+k.wantLeads(set) < p.Cost {
					t.Error("a cheaper plan", k.Job, p, f, set)
				}
			}
		}
	}
	if made < 60 || cut < 10 {
		t.Error("few plans", made, cut)
	}
}

// TestMoreEvidence is P0.5 as far as it rests on plans: with more items the cheapest plan is not cheaper, and with more releadings not dearer.
func TestMoreEvidence(t *testing.T) {
	d := rand.New(rand.NewSource(5))
	dearer, cheaper := 0, 0
	for _, k := range samples() {
		cost := costOf(k.Job)
		more := k.Job
		more.Case.Items = append(slices.Clone(k.Case.Items), thrownItem(d, k.Case, 99, len(k.panes)))
		if plans.Check(more) != api.OK {
			t.Fatal("no valid item", more)
		}
		after := costOf(more)
		if after < cost {
			t.Error("cheaper with an item more", more, cost, after)
		}
		if after > cost {
			dearer++
		}
		silent := k.Job
		silent.Case.Releads = append(slices.Clone(k.Case.Releads), api.Relead{Year: d.Intn(5), Panes: some(d, len(k.panes))})
		after = costOf(silent)
		if after > cost {
			t.Error("dearer with a releading more", silent, cost, after)
		}
		if after < cost {
			cheaper++
		}
	}
	if dearer < 10 || cheaper < 10 {
		t.Error("few changes", dearer, cheaper)
	}
}

// TestYears checks that plans are made for the year of the job: with pieces that stand, and items that speak.
func TestYears(t *testing.T) {
	j := planned()
	for year, want := range map[int]api.Errno{1299: api.ErrAgree, 1300: api.OK, 9999: api.OK} {
		j.Year = year
		if _, e := plans.Make(j); e != want {
			t.Error(year, e)
		}
	}
	j.Case.Releads = []api.Relead{{Year: 1500, Panes: []int{1}}}
	j.Year = 1500
	if p, e := plans.Make(j); e != api.OK || p.Cost != 0 || !slices.Equal(p.Filling, []api.Option{fresh(2), fresh(1)}) {
		t.Error("the item is silent", p, e)
	}
}

// deep returns a copy of a job that shares no memory with it.
func deep(j api.Job) api.Job {
	c := &j.Case
	c.Web.Joints, c.Web.Leads = slices.Clone(c.Web.Joints), slices.Clone(c.Web.Leads)
	c.Pieces, c.Films, c.Items, c.Releads = slices.Clone(c.Pieces), slices.Clone(c.Films), slices.Clone(c.Items), slices.Clone(c.Releads)
	for k := range c.Pieces {
		c.Pieces[k].Gauges, c.Pieces[k].Marks = slices.Clone(c.Pieces[k].Gauges), slices.Clone(c.Pieces[k].Marks)
	}
	for k := range c.Items {
		c.Items[k].Panes, c.Items[k].Colours = slices.Clone(c.Items[k].Panes), slices.Clone(c.Items[k].Colours)
	}
	for k := range c.Releads {
		c.Releads[k].Panes = slices.Clone(c.Releads[k].Panes)
	}
	j.Open, j.Pins, j.Found, j.Sheets = slices.Clone(j.Open), slices.Clone(j.Pins), slices.Clone(j.Found), slices.Clone(j.Sheets)
	return j
}

// scribble changes all numbers of a result.
func scribble(v reflect.Value) {
	switch v.Kind() {
	case reflect.Int:
		v.SetInt(v.Int() + 7777)
	case reflect.Slice:
		for k := range v.Len() {
			scribble(v.Index(k))
		}
	case reflect.Struct:
		for k := range v.NumField() {
			scribble(v.Field(k))
		}
	}
}

// written returns a result after all of it has been changed once, which shows whether parts of it share memory: such parts are changed twice.
func written[T any](x T) T {
	scribble(reflect.ValueOf(&x).Elem())
	return x
}

// TestMemory is R7: arguments are not changed, and results are new memory, of which no two parts are shared.
func TestMemory(t *testing.T) {
	for i, k := range samples()[:60] {
		j := deep(k.Job)
		f := k.fillings()[0]
		if plansOf()[i].e == api.OK {
			f = slices.Clone(plansOf()[i].filling)
		}
		results := func() []any {
			panel, _ := plans.Panel(j)
			needs, _ := plans.Needs(j, f)
			wants, _ := plans.Wants(j, f)
			positions, _ := plans.Closes(j, f)
			cut, _ := plans.Glazes(j, f)
			sets, _ := plans.Sets(j)
			set, _, _ := plans.Cheapest(j, nil)
			plan, _ := plans.Make(j)
			steps, _ := plans.Steps(j, f, plan.Set)
			held, _, _ := plans.Carry(j, f, nil)
			proof, _, _ := plans.Prove(j)
			return []any{written(panel), written(needs), written(wants), written(positions), written(cut), written(sets), written(set), written(plan), written(steps), written(held), written(proof)}
		}
		once := results()
		if !reflect.DeepEqual(j, deep(k.Job)) {
			t.Fatal("a result shares memory with the job", k.Job, j)
		}
		if !reflect.DeepEqual(once, results()) {
			t.Error("other results the second time", k.Job)
		}
		checkWritten(t, j)
	}
}

// checkWritten checks that parts of plans and proofs are changed just once each when all of them are.
func checkWritten(t *testing.T, j api.Job) {
	t.Helper()
	before, _ := plans.Make(j)
	plan, _ := plans.Make(j)
	plan = written(plan)
	scores := slices.DeleteFunc(slices.Clone(before.Steps), func(x api.Step) bool { return x.Kind != api.StepCut })
	for k, x := range slices.DeleteFunc(plan.Steps, func(x api.Step) bool { return x.Kind != api.StepCut+7777 }) {
		for i, p := range x.Score.Points {
			if was := scores[k].Score.Points[i]; p.X != was.X+7777 || plan.Cutting.Scores[k].Points[i].X != was.X+7777 {
				t.Error("scores that share memory", j, plan)
			}
		}
	}
	old, _, _ := plans.Prove(j)
	proof, _, _ := plans.Prove(j)
	checkProofWritten(t, old, written(proof))
}

func checkProofWritten(t *testing.T, old, now api.Proof) {
	t.Helper()
	if now.Index != old.Index+7777 || len(now.Kids) != len(old.Kids) {
		t.Fatal("nodes that share memory", old, now)
	}
	for k, b := range now.Loop.Bounds {
		if b.Most != old.Loop.Bounds[k].Most+7777 {
			t.Fatal("loops that share memory", old, now)
		}
	}
	for k := range now.Kids {
		checkProofWritten(t, old.Kids[k], now.Kids[k])
	}
}

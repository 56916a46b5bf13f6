package plans_test

import (
	"reflect"
	"slices"
	"testing"

	"leadlight/api"
	"leadlight/plans"
	"leadlight/web"
)

// wrongJob is a change by which the job full is no longer valid, or beyond a limit.
type wrongJob struct {
	name   string
	change func(j *api.Job)
	e      api.Errno
}

// wrongJobs are changes of each part of a job.
func wrongJobs() []wrongJob {
	out := []wrongJob{
		{"no web", func(j *api.Job) { j.Case.Web = api.Web{} }, api.ErrJob},
		{"a web that is not sound", func(j *api.Job) { j.Case.Web.Leads = j.Case.Web.Leads[1:] }, api.ErrJob},
		{"no palette", func(j *api.Job) { j.Case.Palette = 0 }, api.ErrJob},
		{"a wrong piece", func(j *api.Job) { j.Case.Pieces[0].Swell = 65 }, api.ErrJob},
		{"a wrong film", func(j *api.Job) { j.Case.Films[0].ID = 0 }, api.ErrJob},
		{"a wrong item", func(j *api.Job) { j.Case.Items[0].Piece = 2 }, api.ErrJob},
		{"a wrong releading", func(j *api.Job) { j.Case.Releads[0].Panes = nil }, api.ErrJob},
		{"a lead that is open twice", func(j *api.Job) { j.Open = []int{3, 3} }, api.ErrJob},
		{"an open lead that does not rise", func(j *api.Job) { j.Open = []int{4, 3} }, api.ErrJob},
		{"an open lead inside", func(j *api.Job) { j.Open = []int{6} }, api.ErrJob},
		{"no such open lead", func(j *api.Job) { j.Open = []int{7} }, api.ErrJob},
		{"no pins", func(j *api.Job) { j.Pins = nil }, api.ErrJob},
		{"a pin at no joint", func(j *api.Job) { j.Pins[0].Joint = 6 }, api.ErrJob},
		{"a pin with too much play", func(j *api.Job) { j.Pins[0].Play = 65 }, api.ErrJob},
		{"too many sheets", func(j *api.Job) { j.Sheets = sheets(8) }, api.ErrJob},
		{"a sheet that does not rise", func(j *api.Job) { j.Sheets[1].ID = 1 }, api.ErrJob},
		{"a wrong sheet", func(j *api.Job) { j.Sheets[1].W = 0 }, api.ErrJob},
		{"beyond a limit, and no year", func(j *api.Job) { manyPanes(j, 13); j.Year = -1 }, api.ErrJob},
		{"13 panes", func(j *api.Job) { manyPanes(j, 13) }, api.ErrLimit},
		{"64 panes", func(j *api.Job) { manyPanes(j, 64) }, api.ErrLimit},
		{"too many options", func(j *api.Job) { manyOptions(j, 32) }, api.ErrLimit},
		{"too many fillings", func(j *api.Job) { manyPanes(j, 9); j.Case.Palette = 4 }, api.ErrLimit},
	}
	for _, n := range append(extremes(), -1, 10000) {
		out = append(out, wrongJob{"a year", func(j *api.Job) { j.Year = n }, api.ErrJob})
	}
	for _, n := range append(extremes(), -1, 4097) {
		out = append(out, wrongJob{"a bite", func(j *api.Job) { j.Bite = n }, api.ErrJob})
	}
	for _, n := range append(extremes(), -1, 1000001) {
		out = append(out,
			wrongJob{"a price of turning", func(j *api.Job) { j.Turn = n }, api.ErrJob},
			wrongJob{"a price of moving", func(j *api.Job) { j.Move = n }, api.ErrJob},
			wrongJob{"a price of new glass", func(j *api.Job) { j.New = n }, api.ErrJob})
	}
	for _, l := range wrongFinds() {
		out = append(out, wrongJob{"what was found", func(j *api.Job) { j.Found = l }, api.ErrJob})
	}
	return out
}

// wrongFinds are lists that cannot have been found in the job full.
func wrongFinds() [][]api.Held {
	out := [][]api.Held{
		{heldGlass(1, 2), heldGlass(1, 2)}, {heldGlass(2, 1), heldGlass(1, 2)}, {heldPiece(1, 1), heldPiece(2, 1)},
		{{Pane: 1}}, {{Pane: 1, Piece: 1, Colour: 1}},
		{{Pane: 1, Colour: 1, Setting: api.Setting{Shift: 1}}}, {{Pane: 1, Colour: 1, Setting: api.Setting{Back: true}}},
	}
	for _, n := range append(extremes(), -1, 0, 3) {
		out = append(out, []api.Held{heldGlass(n, 1)}, []api.Held{heldGlass(1, n)})
		if n != 0 {
			out = append(out, []api.Held{heldPiece(1, n)})
		}
	}
	for _, n := range append(extremes(), -1, 24) {
		out = append(out, []api.Held{{Pane: 1, Piece: 1, Setting: api.Setting{Shift: n}}})
	}
	return out
}

// sheets returns so many sheets.
func sheets(n int) []api.Sheet {
	var out []api.Sheet
	for k := range n {
		out = append(out, api.Sheet{ID: k + 1, Colour: 1, W: 9, H: 9})
	}
	return out
}

// manyPanes gives a job a web of so many panes, in a row, without anything else.
func manyPanes(j *api.Job, panes int) {
	*j = api.Job{Case: api.Case{Web: lattice(panes, 1), Palette: 1}, Pins: j.Pins}
}

// manyOptions gives a job a web of a square pane with 8 options for each of so many pieces, and one more.
func manyOptions(j *api.Job, pieces int) {
	manyPanes(j, 1)
	for k := range pieces {
		g := api.Gauge{Edge: only(4), Across: only(8), Bend: 1}
		j.Case.Pieces = append(j.Case.Pieces, api.Piece{ID: k + 1, Colour: 1, Reverse: 1, Gauges: []api.Gauge{g, g, g, g}})
	}
}

// TestCheck checks J1: what is valid up to its limits, and what is not.
func TestCheck(t *testing.T) {
	for _, x := range wrongJobs() {
		j := full()
		x.change(&j)
		if e := plans.Check(j); e != x.e {
			t.Error(x.name, j, e)
		}
	}
	for name, change := range map[string]func(j *api.Job){
		"as it is":      func(j *api.Job) {},
		"nothing found": func(j *api.Job) { j.Found = nil },
		"any setting": func(j *api.Job) {
			j.Found = []api.Held{{Pane: 2, Piece: 1, Setting: api.Setting{Shift: 23, Back: true}}}
		},
		"not yet made":      func(j *api.Job) { j.Found, j.Year = []api.Held{heldPiece(2, 1)}, 0 },
		"the last year":     func(j *api.Job) { j.Year = 9999 },
		"nothing open":      func(j *api.Job) { j.Open = nil },
		"the greatest bite": func(j *api.Job) { j.Bite = 4096 },
		"prices":            func(j *api.Job) { j.Turn, j.Move, j.New = 1000000, 0, 1000000 },
		"no sheets":         func(j *api.Job) { j.Sheets = nil },
		"7 sheets":          func(j *api.Job) { j.Sheets = sheets(7) },
		"12 panes":          func(j *api.Job) { manyPanes(j, 12); j.Case.Palette = 2 },
		"256 options":       func(j *api.Job) { manyOptions(j, 31); j.Case.Palette = 8 },
		"65536 fillings":    func(j *api.Job) { manyPanes(j, 8); j.Case.Palette = 4 },
	} {
		j := full()
		change(&j)
		if e := plans.Check(j); e != api.OK {
			t.Error(name, e)
		}
	}
}

// TestPanel checks J2.
func TestPanel(t *testing.T) {
	for _, k := range samples() {
		p, e := plans.Panel(k.Job)
		if !reflect.DeepEqual(p.Web, k.Case.Web) || !slices.Equal(p.Open, k.Open) || !slices.Equal(p.Pins, k.Pins) || e != api.OK || !web.ValidPanel(p) {
			t.Error("Panel", k.Job, p, e)
		}
	}
}

// question is the arguments of all functions.
type question struct {
	given      api.Job
	pane       int
	option     api.Option
	filling    []api.Option
	panes, set []int
	first      []api.Option
	steps      []api.Step
	plan       api.Plan
	proof      api.Proof
}

// rightQuestion has arguments by which no call returns an error.
func rightQuestion() question {
	p, _ := plans.Make(planned())
	return question{full(), 1, fresh(1), p.Filling, []int{1}, p.Set, p.Filling[:1], p.Steps, p, api.Proof{Kind: api.ProofCost}}
}

// answer is the error of a call, and whether all else in its result is zero.
type answer struct {
	e    api.Errno
	zero bool
}

// answers calls all functions that return an error. Behind their names is whether they take a filling.
func (q question) answers() map[string]answer {
	out := map[string]answer{"Check": {plans.Check(q.given), true}, "CheckPlan": {plans.CheckPlan(q.given, q.plan), true}}
	panel, e := plans.Panel(q.given)
	out["Panel"] = answer{e, reflect.DeepEqual(panel, api.Panel{})}
	change, e := plans.Change(q.given, q.pane, q.option)
	out["Change"] = answer{e, change == 0}
	sets, e := plans.Sets(q.given)
	out["Sets"] = answer{e, len(sets) == 0}
	set, price, e := plans.Cheapest(q.given, q.panes)
	out["Cheapest"] = answer{e, len(set) == 0 && price == 0}
	plan, e := plans.Make(q.given)
	out["Make"] = answer{e, reflect.DeepEqual(plan, api.Plan{})}
	lower, e := plans.Lower(q.given, q.first)
	out["Lower"] = answer{e, lower == 0}
	proof, cost, e := plans.Prove(q.given)
	out["Prove"] = answer{e, reflect.DeepEqual(proof, api.Proof{}) && cost == 0}
	e, leaves := plans.CheckProof(q.given, 0, q.proof)
	out["CheckProof"] = answer{e, leaves == 0}
	q.fillings(out)
	return out
}

// fillings is the part of answers for functions that take a filling.
func (q question) fillings(out map[string]answer) {
	changed, e := plans.Changed(q.given, q.filling)
	out["Changed filling"] = answer{e, len(changed) == 0}
	needs, e := plans.Needs(q.given, q.filling)
	out["Needs filling"] = answer{e, len(needs) == 0}
	wants, e := plans.Wants(q.given, q.filling)
	out["Wants filling"] = answer{e, len(wants) == 0}
	positions, e := plans.Closes(q.given, q.filling)
	out["Closes filling"] = answer{e, len(positions) == 0}
	cut, e := plans.Glazes(q.given, q.filling)
	out["Glazes filling"] = answer{e, reflect.DeepEqual(cut, api.Cutting{})}
	verdict, e := plans.Judge(q.given, q.filling)
	out["Judge filling"] = answer{e, verdict == api.OK}
	cost, e := plans.Cost(q.given, q.filling, q.set)
	out["Cost filling"] = answer{e, cost == 0}
	steps, e := plans.Steps(q.given, q.filling, q.set)
	out["Steps filling"] = answer{e, len(steps) == 0}
	held, e, at := plans.Carry(q.given, q.filling, q.steps)
	out["Carry filling"] = answer{e, len(held) == 0 && at == 0}
}

// TestNoErrors checks that all calls can succeed.
func TestNoErrors(t *testing.T) {
	for call, a := range rightQuestion().answers() {
		if a.e != api.OK {
			t.Error(call, a)
		}
	}
}

// TestJobErrors checks that the error of Check comes before all others, and that nothing comes with it.
func TestJobErrors(t *testing.T) {
	for _, x := range wrongJobs() {
		for _, q := range []question{rightQuestion(), {pane: -1, panes: []int{0}, set: []int{9}, proof: api.Proof{Kind: -1}}} {
			q.given = full()
			x.change(&q.given)
			for call, a := range q.answers() {
				if a != (answer{x.e, true}) {
					t.Error(x.name, call, a)
				}
			}
		}
	}
}

package dossier_test

import (
	"slices"
	"testing"

	"leadlight/api"
	"leadlight/dossier"
	"leadlight/glass"
	"leadlight/places"
	"leadlight/plans"
)

// spares reports whether each set of fewer items than so many leaves one of some fillings out.
func spares(p api.Problem, clash int, hits [][]int) bool {
	for _, set := range setsOf(p) {
		leaves := slices.ContainsFunc(hits, func(f []int) bool {
			violated, _ := places.Violates(p, f)
			return !slices.ContainsFunc(violated, func(item int) bool { return slices.Contains(set, item) })
		})
		if len(set) < clash && !leaves {
			return false
		}
	}
	return true
}

// sound reports whether all lists are sound fillings.
func sound(p api.Problem, hits [][]int) bool {
	return !slices.ContainsFunc(hits, func(f []int) bool {
		is, _ := places.Sound(p, f)
		return !is
	})
}

// wantDossier is the rule of Build; Hits and Proof are any, and are taken over if they are as they must be.
func wantDossier(t *testing.T, j api.Job, got api.Dossier) api.Dossier {
	t.Helper()
	p := problemOf(j)
	d := api.Dossier{Job: j}
	d.Survey, _ = places.Survey(p)
	fillings := agreeing(p)
	if len(fillings) == 0 {
		d.Clash, _ = places.Clash(p)
		alone, _ := places.Only(p, d.Clash)
		d.Alone, _ = places.Survey(alone)
		d.Trouble = api.ErrAgree
		d.Hits = got.Hits
		if !sound(p, d.Hits) || !spares(p, len(d.Clash), d.Hits) {
			t.Error("Hits", j, d.Clash, d.Hits)
		}
		return d
	}
	for i, l := range p.Options {
		for k, o := range l {
			at := slices.IndexFunc(fillings, func(f []int) bool { return f[i] == k })
			if at >= 0 {
				d.Choices = append(d.Choices, api.Choice{Pane: i + 1, Option: o, Witness: fillings[at]})
			}
		}
	}
	d.Plan, d.Trouble = plans.Make(j)
	d.Bound = d.Plan.Cost
	if d.Trouble != api.OK {
		d.Bound = api.NoPlan
	}
	d.Proof = got.Proof
	if e, _ := plans.CheckProof(j, d.Bound, d.Proof); e != api.OK {
		t.Error("Proof", j, d.Bound, e)
	}
	return d
}

// TestBuild checks dossiers of jobs of all kinds against the rule of Build.
func TestBuild(t *testing.T) {
	count := map[api.Errno]int{}
	cuts, turns := 0, 0
	for _, j := range samples() {
		kept := plain(j)
		got := build(t, j)
		if want := wantDossier(t, j, got); !sameValue(got, want) {
			t.Fatal("Build", j, got, want)
		}
		spoil(got)
		if !sameValue(j, kept) {
			t.Fatal("a dossier shares memory with its job", j)
		}
		count[got.Trouble]++
		if len(got.Plan.Cutting.Scores) > 0 {
			cuts++
		}
		if len(got.Clash) > 1 {
			turns++
		}
	}
	if count[api.OK] < 60 || count[api.ErrAgree] < 20 || count[api.ErrClose] < 2 || count[api.ErrGlass] < 20 || count[api.ErrLift] < 2 || cuts < 20 || turns < 5 {
		t.Error("few kinds", count, cuts, turns)
	}
}

// TestBuildErrors checks jobs of which there is no dossier.
func TestBuildErrors(t *testing.T) {
	wide := example()
	wide.Case.Web = strip(13)
	wide.Case.Items, wide.Case.Pieces, wide.Found, wide.Open, wide.Pins = nil, nil, nil, nil, []api.Pin{{Joint: 1}}
	for _, x := range []struct {
		j api.Job
		e api.Errno
	}{{api.Job{}, api.ErrJob}, {wide, api.ErrLimit}, {deep(), api.ErrLimit}} {
		if d, e := dossier.Build(x.j); e != x.e || !sameValue(d, api.Dossier{}) {
			t.Error("Build", e, x.e)
		}
	}
	if e := plans.Check(deep()); e != api.OK {
		t.Error("a job without a survey is a job", e)
	}
	if _, e := places.Survey(problemOf(deep())); e != api.ErrLimit {
		t.Error("there is a survey", e)
	}
}

// deep is a job whose survey would have too many nodes: many pieces for either of two squares, and many other panes behind them.
func deep() api.Job {
	var points []api.Point
	var pairs [][2]int
	for k := range 13 {
		x := 4 * k
		if k > 2 {
			x = 4 + 2*k
		}
		points = append(points, at(x, 0), at(x, 4))
		pairs = append(pairs, [2]int{2*k + 1, 2*k + 2})
		if k > 0 {
			pairs = append(pairs, [2]int{2*k - 1, 2*k + 1}, [2]int{2 * k, 2*k + 2})
		}
	}
	j := api.Job{Case: api.Case{Web: webOf(points, pairs...), Palette: 1}, Year: 1900, Pins: []api.Pin{{Joint: 1}}}
	for id := 1; id <= 31; id++ {
		j.Case.Pieces = append(j.Case.Pieces, squarePiece(id))
	}
	return j
}

// many is a job of four panes in which the colours 1 to 8 clash with eight items that are known twice.
func many() api.Job {
	j := api.Job{Case: api.Case{Web: squareWeb(), Palette: 8}, Year: 1900, Pins: []api.Pin{{Joint: 1}}}
	for id := 1; id <= 16; id++ {
		j.Case.Items = append(j.Case.Items, api.Item{ID: id, Kind: api.ItemInventory, Year: 1900, Panes: []int{1}, Colours: []int{(id-1)%8 + 1}})
	}
	return j
}

// TestManyItems checks a clash of many items: each of its fillings is needed to show that there is no lesser one.
func TestManyItems(t *testing.T) {
	d := build(t, many())
	if !slices.Equal(d.Clash, []int{1, 2, 3, 4, 5, 6, 7, 8}) {
		t.Fatal("Clash", d.Clash)
	}
	if !sound(problemOf(d.Job), d.Hits) || !spares(problemOf(d.Job), 8, d.Hits) {
		t.Error("Hits", d.Hits)
	}
	if l := dossier.Check(d); len(l) > 0 {
		t.Error("findings", l)
	}
	for k := range d.Hits {
		less := plain(d)
		less.Hits = slices.Delete(less.Hits, k, k+1)
		if l := dossier.Check(less); !slices.Equal(l, wantFindings(less)) {
			t.Error("with fewer fillings", l, less.Hits)
		}
	}
}

// TestExampleDossiers has dossiers that can be told without the program.
func TestExampleDossiers(t *testing.T) {
	d := build(t, example())
	// The piece 9 goes from pane 1 to pane 2, and pane 1 gets new glass of colour 1, the only one of which there is a sheet: all leads but none are opened.
	if d.Trouble != api.OK || d.Bound != d.Plan.Cost || len(d.Choices) != 2+8 || len(d.Clash)+len(d.Hits) > 0 {
		t.Error("a plan", d.Trouble, d.Plan, d.Choices)
	}
	if d.Plan.Cost != 7*3+2+5 || !slices.Equal(d.Plan.Set, []int{1, 2}) || d.Plan.Filling[0] != (api.Option{Colour: 1}) || d.Plan.Filling[1].Piece != 9 {
		t.Error("the plan", d.Plan)
	}
	d = build(t, clashing())
	if !slices.Equal(d.Clash, []int{2, 4}) || d.Trouble != api.ErrAgree || d.Bound != 0 || len(d.Choices) > 0 || len(d.Hits) < 2 {
		t.Error("a clash", d)
	}
	j := example()
	j.Sheets = nil
	if d = build(t, j); d.Trouble != api.ErrGlass || d.Bound != api.NoPlan || len(d.Plan.Steps) > 0 || len(d.Choices) != 2+8 {
		t.Error("without sheets", d.Trouble, d.Plan)
	}
	j = example()
	j.Open = nil
	if d = build(t, j); d.Trouble != api.ErrLift || d.Bound != api.NoPlan {
		t.Error("without open leads", d.Trouble, d.Plan)
	}
	j = example()
	for k := range j.Case.Web.Leads {
		j.Case.Web.Leads[k].Give = 0
	}
	j.Case.Pieces[0].Swell = 9
	if d = build(t, j); d.Trouble != api.ErrClose || d.Bound != api.NoPlan {
		t.Error("too large a piece", d.Trouble, d.Plan)
	}
	g, _ := glass.Widen(j.Case.Pieces[0].Gauges, 0)
	if !slices.Equal(g, build(t, j).Job.Case.Pieces[0].Gauges) {
		t.Error("the job is not told as it is")
	}
}

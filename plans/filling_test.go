package plans_test

import (
	"math/rand"
	"reflect"
	"slices"
	"strings"
	"testing"

	"leadlight/api"
	"leadlight/cutting"
	"leadlight/evidence"
	"leadlight/leading"
	"leadlight/plans"
)

// wrongFillings are lists that are no fillings of the job full, with the error of evidence.Filling.
func wrongFillings() map[api.Errno][][]api.Option {
	a, b := glazed(1, 1), fresh(1)
	out := map[api.Errno][][]api.Option{
		api.ErrArg: {nil, {a}, {a, b, b}},
		api.ErrNone: {
			{b, a}, {glazed(1, 2), b}, {glazed(2, 1), b}, {a, {}}, {a, {Setting: api.Setting{Shift: 1}, Colour: 1}},
			{{Piece: 1, Setting: api.Setting{Shift: 1}, Colour: 1}, b}, {{Piece: 1, Setting: api.Setting{Back: true}, Colour: 2}, b},
		},
	}
	for _, n := range append(extremes(), -1, 3) {
		out[api.ErrNone] = append(out[api.ErrNone], []api.Option{a, fresh(n)}, []api.Option{glazed(n, 1), b}, []api.Option{{Piece: 1, Setting: api.Setting{Shift: n}, Colour: 1}, b})
	}
	return out
}

// TestFillingErrors checks that the error of evidence.Filling comes behind that of Check, but before those of the rules, and that nothing comes with it.
func TestFillingErrors(t *testing.T) {
	for want, l := range wrongFillings() {
		for _, f := range l {
			q := rightQuestion()
			q.filling, q.set, q.steps = f, []int{9}, []api.Step{{}}
			// Without sheets new glass is wanted of which there is none.
			q.given.Sheets, q.given.Found = nil, nil
			if _, e := evidence.Filling(q.given.Case, q.given.Year, f); e != want {
				t.Error("no such error", f, e)
			}
			for call, a := range q.answers() {
				if strings.HasSuffix(call, "filling") && a != (answer{want, true}) {
					t.Error(call, f, a)
				}
			}
		}
	}
}

// TestChange checks J3 and J4 against the table of changes.
func TestChange(t *testing.T) {
	count := [4]int{}
	for _, k := range samples() {
		for i, l := range k.options {
			for _, o := range l {
				want := k.wantChange(i+1, o)
				count[want]++
				if n, e := plans.Change(k.Job, i+1, o); n != want || e != api.OK {
					t.Error("Change", k.Job, i+1, o, n, e)
				}
			}
		}
		for _, f := range someFillings(k) {
			if l, e := plans.Changed(k.Job, f); !slices.Equal(l, k.wantChanged(f)) || e != api.OK {
				t.Error("Changed", k.Job, f, l, e)
			}
		}
	}
	if slices.Min(count[:]) < 20 {
		t.Error("few changes", count)
	}
}

// someFillings returns some fillings of a sample: the first one, and thrown ones.
func someFillings(k known) [][]api.Option {
	d := rand.New(rand.NewSource(3))
	every := k.fillings()
	out := every[:1:1]
	for range 4 {
		out = append(out, every[d.Intn(len(every))])
	}
	return out
}

// TestChangeExamples has the chapter's examples of J3, and what is no option.
func TestChangeExamples(t *testing.T) {
	for _, x := range []struct {
		j    api.Job
		pane int
		o    api.Option
		want int
		e    api.Errno
	}{
		{example(), 1, glazed(1, 1), api.ChangeMove, api.OK}, {example(), 1, fresh(2), api.ChangeNone, api.OK}, {example(), 2, fresh(1), api.ChangeNew, api.OK},
		{example(), 1, fresh(1), api.ChangeNew, api.OK}, {example(), 2, fresh(2), api.ChangeNew, api.OK},
		{found(heldPiece(1, 1)), 1, glazed(1, 1), api.ChangeNone, api.OK}, {found(heldPiece(2, 1)), 1, glazed(1, 1), api.ChangeMove, api.OK},
		{found(heldPiece(1, 1)), 1, fresh(1), api.ChangeNew, api.OK}, {found(), 1, glazed(1, 1), api.ChangeMove, api.OK},
		{found(api.Held{Pane: 1, Piece: 1, Setting: api.Setting{Shift: 1}}), 1, glazed(1, 1), api.ChangeTurn, api.OK},
		{found(api.Held{Pane: 1, Piece: 1, Setting: api.Setting{Back: true}}), 1, glazed(1, 1), api.ChangeTurn, api.OK},
		{example(), 0, fresh(1), 0, api.ErrNone}, {example(), 3, fresh(1), 0, api.ErrNone}, {example(), -1, fresh(1), 0, api.ErrNone},
		{example(), 2, glazed(1, 1), 0, api.ErrNone}, {example(), 1, glazed(1, 2), 0, api.ErrNone}, {example(), 1, fresh(0), 0, api.ErrNone}, {example(), 1, fresh(3), 0, api.ErrNone},
		{example(), 1, api.Option{Setting: api.Setting{Shift: 1}, Colour: 2}, 0, api.ErrNone},
		{early(), 1, glazed(1, 1), 0, api.ErrNone},
	} {
		if n, e := plans.Change(x.j, x.pane, x.o); n != x.want || e != x.e {
			t.Error("Change", x, n, e)
		}
	}
	for _, n := range extremes() {
		if k, e := plans.Change(example(), n, fresh(1)); k != 0 || e != api.ErrNone {
			t.Error("Change", n, k, e)
		}
	}
}

// found returns the job J of the chapter's examples with other finds.
func found(l ...api.Held) api.Job {
	j := example()
	j.Found = l
	return j
}

// early returns the job J in a year in which its piece does not stand.
func early() api.Job {
	j := example()
	j.Year = 1299
	return j
}

// TestNeedsAndWants checks J5 and J6 against their rules.
func TestNeedsAndWants(t *testing.T) {
	swollen, several := 0, 0
	for _, k := range samples() {
		for _, f := range someFillings(k) {
			needs, e := plans.Needs(k.Job, f)
			if !slices.Equal(needs, k.wantNeeds(all(f))) || e != api.OK {
				t.Error("Needs", k.Job, f, needs, e)
			}
			if slices.ContainsFunc(needs, func(n api.Need) bool { return n.W != 0 }) {
				swollen++
			}
			want := k.wantWants(all(f))
			wants, e := plans.Wants(k.Job, f)
			if len(wants) != len(want) || len(want) > 0 && !reflect.DeepEqual(wants, want) || e != api.OK {
				t.Error("Wants", k.Job, f, wants, e)
			}
			for _, w := range wants {
				if !cutting.ValidWant(w) {
					t.Error("no valid want", w)
				}
			}
			if len(wants) > 1 {
				several++
			}
		}
	}
	if swollen < 50 || several < 50 {
		t.Error("few needs or wants", swollen, several)
	}
}

// empty returns a job of so many panes in a row, all of them empty, with new glass of one colour from a great sheet.
func empty(panes int) api.Job {
	return api.Job{Case: api.Case{Web: lattice(panes, 1), Palette: 1}, Open: []int{1}, Pins: []api.Pin{{Joint: 1}}, Sheets: []api.Sheet{{ID: 1, Colour: 1, W: 99, H: 99}}, New: 3}
}

// TestManyWants checks that Wants tells also more wants than can be cut, and that these cannot be (J6, J8).
func TestManyWants(t *testing.T) {
	for _, n := range []int{6, 7, 8, 12} {
		j, f := empty(n), slices.Repeat([]api.Option{fresh(1)}, n)
		if l, e := plans.Wants(j, f); len(l) != n || e != api.OK {
			t.Error("Wants", n, l, e)
		}
		c, e := plans.Glazes(j, f)
		if n > 7 && (e != api.ErrGlass || !reflect.DeepEqual(c, api.Cutting{})) || n <= 7 && (e != api.OK || len(c.Placed) != n) {
			t.Error("Glazes", n, c, e)
		}
	}
}

// TestJudging checks J7 to J9 against their rules.
func TestJudging(t *testing.T) {
	count := map[api.Errno]int{}
	for _, k := range samples() {
		for _, f := range someFillings(k) {
			want := k.wantJudge(f)
			count[want]++
			if e, g := plans.Judge(k.Job, f); e != want || g != api.OK {
				t.Error("Judge", k.Job, f, e, g)
			}
			positions, wrong := leading.Close(k.panel, k.wantNeeds(all(f)))
			at, e := plans.Closes(k.Job, f)
			if !slices.Equal(at, positions) || (e == api.OK) != (wrong == api.OK) || e != api.OK && e != api.ErrClose {
				t.Error("Closes", k.Job, f, at, e)
			}
			cut, ok := k.wantCutting(all(f))
			c, e := plans.Glazes(k.Job, f)
			if !reflect.DeepEqual(c, cut) || ok && e != api.OK || !ok && e != api.ErrGlass {
				t.Error("Glazes", k.Job, f, c, e)
			}
		}
	}
	for _, e := range []api.Errno{api.OK, api.ErrAgree, api.ErrClose, api.ErrGlass} {
		if count[e] < 30 {
			t.Error("few", e, count)
		}
	}
}

// TestJudgeExamples checks that the first error is told of several, and that without wants it does not matter what sheets there are.
func TestJudgeExamples(t *testing.T) {
	both := planned()
	both.Case.Pieces = append(both.Case.Pieces, both.Case.Pieces[0])
	both.Case.Pieces[1].ID = 2
	wide := planned()
	wide.Case.Pieces[0].Swell = 9
	for _, x := range []struct {
		name string
		j    api.Job
		l    []api.Option
		want api.Errno
	}{
		{"the plan", planned(), []api.Option{glazed(1, 1), fresh(1)}, api.OK},
		{"the item is not obeyed", planned(), []api.Option{fresh(2), fresh(1)}, api.ErrAgree},
		{"the item is not obeyed, and there is no glass", planned(), []api.Option{fresh(1), fresh(2)}, api.ErrAgree},
		{"the other piece", both, []api.Option{glazed(2, 1), fresh(1)}, api.ErrAgree},
		{"too wide", wide, []api.Option{glazed(1, 1), fresh(1)}, api.ErrClose},
		{"too wide, and there is no glass", wide, []api.Option{glazed(1, 1), fresh(2)}, api.ErrClose},
		{"no glass", planned(), []api.Option{glazed(1, 1), fresh(2)}, api.ErrGlass},
		{"as found", example(), []api.Option{fresh(2), fresh(2)}, api.ErrGlass},
	} {
		if e, g := plans.Judge(x.j, x.l); e != x.want || g != api.OK {
			t.Error(x.name, e, g)
		}
	}
	twice := api.Job{Case: api.Case{Web: lattice(2, 1), Palette: 1}, Pins: []api.Pin{{Joint: 1}}, Found: []api.Held{heldGlass(1, 1), heldGlass(2, 1)}}
	g := api.Gauge{Edge: only(4), Across: only(8), Bend: 1}
	twice.Case.Pieces = []api.Piece{{ID: 5, Colour: 1, Reverse: 1, Gauges: []api.Gauge{g, g, g, g}}}
	if e, g := plans.Judge(twice, []api.Option{glazed(5, 1), glazed(5, 1)}); e != api.ErrAgree || g != api.OK {
		t.Error("a piece twice", e, g)
	}
	if e, g := plans.Judge(twice, []api.Option{glazed(5, 1), fresh(1)}); e != api.OK || g != api.OK {
		t.Error("a piece once", e, g)
	}
}

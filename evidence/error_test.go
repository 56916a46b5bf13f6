package evidence_test

import (
	"math"
	"math/rand"
	"slices"
	"strings"
	"testing"

	"leadlight/api"
	"leadlight/evidence"
)

// question is the arguments of all functions.
type question struct {
	given                         api.Case
	item, year, pane, piece, lead int
	option                        api.Option
	edge                          int
	filling                       []api.Option
	indices                       []int
}

// answer is the error of a call, and whether all else in its result is zero.
type answer struct {
	e    api.Errno
	zero bool
}

// answers calls all functions but Check and ValidItem. Behind their names are the arguments of which the section Errors says when they are wrong.
func (q question) answers() map[string]answer {
	out := map[string]answer{}
	list := func(name string, l []int, e api.Errno) { out[name] = answer{e, len(l) == 0} }
	is := func(name string, is bool, e api.Errno) { out[name] = answer{e, !is} }
	number := func(name string, n int, e api.Errno) { out[name] = answer{e, n == 0} }
	c := q.given
	names, e := evidence.Names(c, q.item)
	list("Names item", names, e)
	a, edge, b, other, e := evidence.Whole(c, q.lead)
	out["Whole lead"] = answer{e, a == 0 && edge == 0 && b == 0 && other == 0}
	silencer, e := evidence.Silencer(c, q.item, q.year)
	number("Silencer item year", silencer, e)
	speaks, e := evidence.Speaks(c, q.item, q.year)
	is("Speaks item year", speaks, e)
	spoken, e := evidence.Spoken(c, q.year)
	list("Spoken year", spoken, e)
	reach, e := evidence.Reach(c, q.item)
	out["Reach item"] = answer{e, reach == api.Span{}}
	epochs, e := evidence.Epochs(c)
	out["Epochs"] = answer{e, len(epochs) == 0}
	standing, e := evidence.Standing(c, q.year)
	list("Standing year", standing, e)
	space, e := evidence.Space(c, q.year)
	number("Space year", space, e)
	q.fillings(out)
	q.options(out)
	return out
}

// fillings is the part of answers for E15 and E17 to E20.
func (q question) fillings(out map[string]answer) {
	rules, e := evidence.Rules(q.given, q.item, q.year)
	out["Rules item year"] = answer{e, len(rules) == 0}
	problem, e := evidence.Compile(q.given, q.year)
	out["Compile year"] = answer{e, sameProblem(problem, api.Problem{})}
	indices, e := evidence.Filling(q.given, q.year, q.filling)
	out["Filling year"] = answer{e, len(indices) == 0}
	chosen, e := evidence.Chosen(q.given, q.year, q.indices)
	out["Chosen year"] = answer{e, len(chosen) == 0}
	obeys, e := evidence.Obeys(q.given, q.item, q.year, q.filling)
	out["Obeys item year"] = answer{e, !obeys}
}

// options is the part of answers for E11 to E14.
func (q question) options(out map[string]answer) {
	settings, e := evidence.Fitting(q.given, q.pane, q.piece)
	out["Fitting pane piece"] = answer{e, len(settings) == 0}
	options, e := evidence.Options(q.given, q.pane, q.year)
	out["Options pane year"] = answer{e, len(options) == 0}
	at, e := evidence.Index(q.given, q.pane, q.year, q.option)
	out["Index pane year"] = answer{e, at == 0}
	marks, e := evidence.Marked(q.given, q.pane, q.option, q.edge)
	out["Marked pane"] = answer{e, len(marks) == 0}
}

// rightQuestion has arguments by which no call returns an error.
func rightQuestion() question {
	return question{full(), 10, 1900, 1, 1, 6, glazed(1, 1), 0, []api.Option{glazed(1, 1), fresh(1)}, []int{0, 1}}
}

// TestNoErrors checks that all calls can succeed.
func TestNoErrors(t *testing.T) {
	for call, a := range rightQuestion().answers() {
		if a.e != api.OK {
			t.Error(call, a)
		}
	}
}

// TestCaseErrors checks that the error of Check comes before all others, and that nothing comes with it.
func TestCaseErrors(t *testing.T) {
	for _, x := range wrongCases() {
		for _, q := range []question{rightQuestion(), {year: -1, lead: -1, edge: -1}} {
			q.given = full()
			x.change(&q.given)
			for call, a := range q.answers() {
				if a != (answer{x.e, true}) {
					t.Error(x.name, call, a)
				}
			}
		}
	}
}

// TestYearErrors checks that ErrArg for a year comes before ErrNone, and before all other errors of the rules.
func TestYearErrors(t *testing.T) {
	for _, year := range append(extremes(), -1, 10000) {
		for _, q := range []question{rightQuestion(), {given: full()}} {
			q.year = year
			for call, a := range q.answers() {
				if strings.Contains(call, "year") && a != (answer{api.ErrArg, true}) {
					t.Error(year, call, a)
				}
			}
		}
	}
}

// TestNoneErrors checks that ErrNone for an item, pane, lead or piece comes before the errors of the rules.
func TestNoneErrors(t *testing.T) {
	for _, n := range append(extremes(), -1, 0, 3, 5, 7, 65536) {
		for word, change := range map[string]func(q *question){
			"item":  func(q *question) { q.item = n },
			"pane":  func(q *question) { q.pane = n },
			"lead":  func(q *question) { q.lead = n },
			"piece": func(q *question) { q.piece = n },
		} {
			for _, q := range []question{rightQuestion(), {given: full(), pane: 1, filling: []api.Option{{}}, indices: []int{9}, edge: 9}} {
				change(&q)
				for call, a := range q.answers() {
					there := word == "piece" && (n == 3 || q.pane != 1)
					if strings.Contains(call, word) && !there && a != (answer{api.ErrNone, true}) {
						t.Error(n, call, a)
					}
				}
			}
		}
	}
}

// TestFillingErrors has lists that are too short or too long, and limits: ErrArg comes before ErrLimit, and that before ErrNone.
func TestFillingErrors(t *testing.T) {
	few := rightQuestion()
	many := rightQuestion()
	many.given.Pieces, many.given.Palette = loosePieces(42), 5
	limit := map[fault]api.Errno{{"few", false}: api.OK, {"few", true}: api.ErrNone, {"many", false}: api.ErrLimit, {"many", true}: api.ErrLimit}
	for name, q := range map[string]question{"few": few, "many": many} {
		for _, n := range []int{0, 1, 3, 64, 1000} {
			q.filling, q.indices = make([]api.Option, n), make([]int, n)
			q.checkFilling(t, name, api.ErrArg)
		}
		q.filling, q.indices = []api.Option{glazed(1, 1), fresh(1)}, []int{0, 1}
		q.checkFilling(t, name, limit[fault{name, false}])
		// What is wrong in the pane 2 comes after the limit of the pane 1, and the reverse.
		q.filling, q.indices = []api.Option{glazed(1, 1), glazed(1, 1)}, []int{0, 9}
		q.checkFilling(t, name, limit[fault{name, true}])
		q.filling, q.indices = []api.Option{glazed(9, 1), fresh(1)}, []int{999, 0}
		q.checkFilling(t, name, limit[fault{name, true}])
	}
}

// fault is the name of a case, and whether a filling has an option that is none.
type fault struct {
	name string
	none bool
}

// checkFilling checks the error of Filling, Chosen and Obeys.
func (q question) checkFilling(t *testing.T, name string, want api.Errno) {
	t.Helper()
	for call, a := range q.answers() {
		if (call == "Filling year" || call == "Chosen year" || call == "Obeys item year") && a.e != want || a.e != api.OK && !a.zero {
			t.Error(name, call, len(q.filling), a, want)
		}
	}
}

// TestRulesLimit checks ErrLimit of E15 to E17, E18 and E20 for a pane with too many options, whatever pane is asked for.
func TestRulesLimit(t *testing.T) {
	q := rightQuestion()
	q.given.Pieces, q.given.Palette = loosePieces(43), 1
	// The item names the pane 2 only, and is silent.
	q.given.Items = []api.Item{{ID: 10, Kind: api.ItemFace, Year: 1700, Panes: []int{2}}}
	for call, a := range q.answers() {
		limited := slices.Contains([]string{"Rules item year", "Space year", "Compile year", "Filling year", "Chosen year", "Obeys item year", "Options pane year", "Index pane year"}, call)
		if limited && a != (answer{api.ErrLimit, true}) || !limited && a.e != api.OK {
			t.Error(call, a)
		}
	}
	q.year, q.indices = 41, []int{0, 0}
	for call, a := range q.answers() {
		if a.e != api.OK {
			t.Error("a year before", call, a)
		}
	}
}

// TestSpaceLimit has the greatest space, and greater ones, up to those that are too great for a number.
func TestSpaceLimit(t *testing.T) {
	for _, x := range []struct {
		columns, rows, palette, want int
	}{
		{4, 1, 16, 65536}, {5, 1, 16, 0}, {4, 4, 2, 65536}, {17, 1, 2, 0}, {8, 8, 1, 1}, {8, 8, 16, 0}, {8, 8, 2, 0}, {8, 4, 16, 0}, {1, 1, 16, 16}, {2, 1, 16, 256}, {10, 1, 3, 59049}, {7, 1, 5, 0},
	} {
		c := api.Case{Web: lattice(x.columns, x.rows), Palette: x.palette}
		want := api.OK
		if x.want == 0 {
			want = api.ErrLimit
		}
		n, e1 := evidence.Space(c, 5)
		p, e2 := evidence.Compile(c, 5)
		if n != x.want || e1 != want || e2 != want || len(p.Panes) != min(x.want, 1)*x.columns*x.rows {
			t.Error(x, n, e1, e2, len(p.Panes))
		}
	}
	// Two panes with as many options as there may be have the greatest space.
	c := api.Case{Web: crossed(4, []api.Point{at(0, 0), at(4, 0), at(4, 4), at(0, 4)}, [2]int{1, 3}), Palette: 4, Pieces: loosePieces(42)}
	if n, e := evidence.Space(c, 41); n != 65536 || e != api.OK {
		t.Error("two", n, e)
	}
}

// TestRulesMost has as many rules as there can be: the items' limits keep them within MaxRules.
func TestRulesMost(t *testing.T) {
	c := example()
	for id := 1; id <= 16; id++ {
		c.Items = append(c.Items, api.Item{ID: id, Kind: api.ItemRubbing, Sights: slices.Repeat([]api.Sight{{Pane: 1 + id%2, Edge: id % 3}}, 16)})
	}
	p, e := evidence.Compile(c, 1300)
	if len(p.Rules) != 256 || e != api.OK {
		t.Fatal(len(p.Rules), e)
	}
	for k, r := range p.Rules {
		if r.Item != 1+k/16 || !slices.Equal(r.Panes, []int{r.Item % 2}) {
			t.Error(k, r)
		}
	}
}

// TestMost has as much of everything as there may be.
func TestMost(t *testing.T) {
	c := api.Case{Web: lattice(8, 8), Palette: 16, Films: manyFilms(16), Pieces: manyPieces(64), Releads: slices.Repeat([]api.Relead{relead(5000, 1, 64)}, 64)}
	for k := range c.Releads {
		c.Releads[k].Year += k
	}
	for k := range 16 {
		c.Items = append(c.Items, api.Item{ID: k + 1, Kind: api.ItemKept, Year: 5000 + 2*k, Piece: 65535})
	}
	// Each item speaks for its own year only.
	if l, e := evidence.Epochs(c); len(l) != 34 || e != api.OK {
		t.Error("Epochs", len(l), e)
	}
	if l, e := evidence.Spoken(c, 5002); !slices.Equal(l, []int{2}) || e != api.OK {
		t.Error("Spoken", l, e)
	}
	if l, e := evidence.Names(c, 16); len(l) != 64 || l[0] != 1 || l[63] != 64 || e != api.OK {
		t.Error("Names", l, e)
	}
	if l, e := evidence.Rules(c, 2, 5002); len(l) != 1 || len(l[0].Panes) != 64 || len(l[0].Hits) != 64 || e != api.OK {
		t.Error("Rules", len(l), e)
	}
}

// TestArgumentsStay checks that no call changes an argument.
func TestArgumentsStay(t *testing.T) {
	q := rightQuestion()
	q.given.Items = append(q.given.Items, api.Item{ID: 80, Kind: api.ItemRubbing, Sights: []api.Sight{{Pane: 2}, {Pane: 1}}})
	q.given.Releads[1].Panes = append(q.given.Releads[1].Panes, 99)[:2]
	for _, q.item = range []int{10, 20, 30, 40, 50, 60, 70, 80} {
		q.answers()
	}
	want := full()
	c := q.given
	if !slices.Equal(c.Web.Joints, want.Web.Joints) || !slices.Equal(c.Web.Leads, want.Web.Leads) || c.Releads[1].Panes[:3][2] != 99 {
		t.Error("web", c)
	}
	for k, p := range want.Pieces {
		if !slices.Equal(c.Pieces[k].Gauges, p.Gauges) || !slices.Equal(c.Pieces[k].Marks, p.Marks) {
			t.Error("piece", c.Pieces[k])
		}
	}
	for k, x := range want.Items {
		y := c.Items[k]
		if !slices.Equal(x.Panes, y.Panes) || !slices.Equal(x.Colours, y.Colours) || !slices.Equal(x.Sights, y.Sights) {
			t.Error("item", y)
		}
	}
	if c.Items[7].Sights[0].Pane != 2 || !slices.Equal(q.filling, rightQuestion().filling) || !slices.Equal(q.indices, rightQuestion().indices) {
		t.Error("lists", c.Items[7], q.filling, q.indices)
	}
}

// TestNewMemory checks that results are new memory: they share none with arguments, and no two parts of one share any.
func TestNewMemory(t *testing.T) {
	c := full()
	c.Releads = nil
	c.Items = append(c.Items, api.Item{ID: 80, Kind: api.ItemKept, Piece: 1})
	taken := map[any]bool{}
	for _, x := range c.Items {
		for k := range x.Panes {
			taken[&x.Panes[k]] = true
		}
	}
	for k := range c.Pieces[0].Marks {
		taken[&c.Pieces[0].Marks[k]] = true
	}
	for range 2 {
		names, _ := evidence.Names(c, 30)
		isNew(t, taken, "Names", names)
		marks, _ := evidence.Marked(c, 1, glazed(1, 1), 0)
		isNew(t, taken, "Marked", marks)
		p, e := evidence.Compile(c, 1500)
		if e != api.OK || len(p.Rules) != 10 {
			t.Fatal(p, e)
		}
		isNew(t, taken, "Panes", p.Panes)
		for _, l := range p.Options {
			isNew(t, taken, "Options", l)
		}
		for _, r := range p.Rules {
			isNew(t, taken, "Panes of a rule", r.Panes)
			for _, row := range slices.Concat(r.Hits, r.OK) {
				isNew(t, taken, "row", row)
			}
		}
	}
}

// isNew checks that all memory of a list, up to its capacity, is new, and takes it.
func isNew[T any](t *testing.T, taken map[any]bool, name string, l []T) {
	t.Helper()
	if len(l) == 0 {
		t.Error("empty", name)
	}
	l = l[:cap(l)]
	for k := range l {
		if taken[&l[k]] {
			t.Error(name, k)
		}
		taken[&l[k]] = true
	}
}

// TestAnyArguments calls all functions with numbers from anywhere: each comes back, and has the error that the section Errors names first.
func TestAnyArguments(t *testing.T) {
	d := rand.New(rand.NewSource(67))
	wild := func() int {
		return []int{0, 1, 2, 3, 4, 5, 6, -1, 10, 17, 9999, 10000, 65536, math.MaxInt, math.MinInt}[d.Intn(15)]
	}
	count := map[api.Errno]int{}
	for range 1500 {
		q := question{full(), wild() * 10, wild(), wild(), wild(), wild(), api.Option{Piece: wild(), Setting: turned(wild()), Colour: wild()}, wild(), nil, nil}
		if d.Intn(3) == 0 {
			spoil(d, &q.given, wild)
		}
		for range d.Intn(4) {
			q.filling, q.indices = append(q.filling, api.Option{Piece: wild(), Setting: over(wild()), Colour: wild()}), append(q.indices, wild())
		}
		for call, a := range q.answers() {
			if want := q.firstError(call); want != api.OK && a != (answer{want, true}) {
				t.Error(call, q, a, want)
			}
			if a.e != api.OK && !a.zero {
				t.Error("more than an error", call, q, a)
			}
			count[a.e]++
		}
		if x := q.given.Items[0]; evidence.ValidItem(q.given, x) {
			count[-1]++
		}
	}
	for _, e := range []api.Errno{-1, api.OK, api.ErrArg, api.ErrNone, api.ErrWeb, api.ErrPalette, api.ErrPieces, api.ErrFilms, api.ErrItem, api.ErrRelead} {
		if count[e] < 100 {
			t.Error("few", e, count)
		}
	}
}

// spoil changes a number of a case.
func spoil(d *rand.Rand, c *api.Case, wild func() int) {
	x := &c.Items[d.Intn(7)]
	switch d.Intn(12) {
	case 0:
		c.Web.Joints[d.Intn(5)].At.X = wild()
	case 1:
		c.Web.Leads[d.Intn(6)].B = wild()
	case 2:
		c.Palette = wild()
	case 3:
		c.Pieces[d.Intn(2)].Swell = wild()
	case 4:
		c.Pieces[d.Intn(2)].ID = wild()
	case 5:
		c.Films[d.Intn(2)].Grey[0] = wild()
	case 6:
		c.Releads[d.Intn(3)].Panes = []int{wild(), wild()}
	case 7:
		x.Kind = wild()
	case 8:
		x.Panes = []int{wild(), wild()}
	case 9:
		x.Count = span(wild(), wild())
	case 10:
		x.Sights = []api.Sight{{Pane: wild(), Edge: wild(), Grey: span(wild(), wild()), At: span(wild(), wild()), Count: span(wild(), wild())}}
	case 11:
		x.Film, x.Lead, x.Piece, x.Slack = wild(), wild(), wild(), wild()
	}
}

// firstError returns the error that the section Errors names first for a call, if there is one of these.
func (q question) firstError(call string) api.Errno {
	if e, _ := evidence.Check(q.given); e != api.OK {
		return e
	}
	isItem := slices.ContainsFunc(q.given.Items, func(x api.Item) bool { return x.ID == q.item })
	isPiece := slices.ContainsFunc(q.given.Pieces, func(p api.Piece) bool { return p.ID == q.piece })
	// Of the case full only the lead 6 is whole.
	none := map[string]bool{"item": !isItem, "piece": !isPiece, "pane": q.pane != 1 && q.pane != 2, "lead": q.lead != 6}
	words := strings.Fields(call)[1:]
	if slices.Contains(words, "year") && (q.year < 0 || q.year > 9999) {
		return api.ErrArg
	}
	if slices.ContainsFunc(words, func(word string) bool { return none[word] }) {
		return api.ErrNone
	}
	return api.OK
}

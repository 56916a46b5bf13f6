package cutting_test

import (
	"math"
	"math/rand"
	"slices"
	"testing"

	"leadlight/api"
	"leadlight/cutting"
)

// question is the arguments of all functions.
type question struct {
	want              api.Want
	wants             []api.Want
	sheet             api.Sheet
	sheets            []api.Sheet
	grain, turn, bite int
	at, u, m, v       api.Point
	outline           []api.Point
	pocket            api.Pocket
	area, used        int
	cutting           api.Cutting
}

// easy is a question to which all functions have an answer.
func easy() question {
	c, _ := cutting.Cut(example(), []api.Sheet{pane()}, 1)
	return question{
		want: example()[0], wants: example(), sheet: pane(), sheets: []api.Sheet{pane()}, bite: 1,
		u: at(8, 4), m: at(4, 3), v: at(0, 4), outline: notched(), pocket: api.Pocket{From: 2, To: 4, Area: 8}, area: 60, used: 60, cutting: c,
	}
}

// answer is the arguments of a call that can be wrong, its error, and whether all else in its result is zero.
type answer struct {
	uses []string
	e    api.Errno
	zero bool
}

// answers calls all functions that return an error.
func (q question) answers() map[string]answer {
	out := map[string]answer{}
	say := func(name string, e api.Errno, zero bool, uses ...string) { out[name] = answer{uses, e, zero} }
	ok, e := cutting.Allowed(q.want, q.grain, q.turn)
	say("Allowed", e, !ok, "want", "grain", "turn")
	size, e := cutting.BoxOf(q.want, q.turn)
	say("BoxOf", e, size == api.Size{}, "want", "turn")
	turned, e := cutting.Turned(q.want, q.turn, q.at)
	say("Turned", e, len(turned) == 0, "want", "turn", "at")
	sizes, e := cutting.Sizes(q.wants, q.grain)
	say("Sizes", e, len(sizes) == 0, "wants", "grain")
	ok, e = cutting.FitsIn(q.wants, q.sheet)
	say("FitsIn", e, !ok, "wants", "sheet")
	placed, splits, e := cutting.Lay(q.wants, q.sheet)
	say("Lay", e, len(placed) == 0 && len(splits) == 0, "wants", "sheet")
	ids, area, e := cutting.Assign(q.wants, q.sheets)
	say("Assign", e, len(ids) == 0 && area == 0, "wants", "sheets")
	ok, e = cutting.Least(q.wants, q.sheets, q.area)
	say("Least", e, !ok, "wants", "sheets")
	c, e := cutting.Cut(q.wants, q.sheets, q.bite)
	say("Cut", e, sameCutting(c, api.Cutting{}), "wants", "sheets", "bite")
	e, k := cutting.Check(q.wants, q.sheets, q.bite, q.cutting)
	say("Check", e, k == 0, "wants", "sheets", "bite")
	waste, e := cutting.Waste(q.wants, api.Cutting{Area: q.used})
	say("Waste", e, waste == 0, "wants", "area")
	ok, e = cutting.Lawful(q.u, q.m, q.v, q.bite)
	say("Lawful", e, !ok, "point", "bite")
	bites, e := cutting.Pocket(q.outline, q.pocket, q.bite)
	say("Pocket", e, len(bites) == 0, "outline", "pocket", "bite")
	ok, e = cutting.CanCut(q.outline, q.bite)
	say("CanCut", e, !ok, "outline", "bite")
	free, e := cutting.Free(q.outline, q.bite)
	say("Free", e, len(free) == 0, "outline", "bite")
	return out
}

// wrongs are ways to make an argument of a question wrong, with the error that follows from it.
type wrong struct {
	uses  string
	e     api.Errno
	spoil func(*question)
}

func wrongs() map[string]wrong {
	far := []int{math.MinInt, -1, math.MaxInt}
	out := map[string]wrong{
		"want ID":         {"want", api.ErrWant, func(q *question) { q.want.ID = 0 }},
		"want ID of list": {"wants", api.ErrWant, func(q *question) { q.wants[1].ID = 65536 }},
		"equal wants":     {"wants", api.ErrWant, func(q *question) { q.wants[1].ID = 1 }},
		"falling wants":   {"wants", api.ErrWant, func(q *question) { slices.Reverse(q.wants) }},
		"equal sheets":    {"sheets", api.ErrArg, func(q *question) { q.sheets = append(q.sheets, q.sheets[0]) }},
		"falling sheets":  {"sheets", api.ErrArg, func(q *question) { q.sheets = []api.Sheet{sheetOf(2, 9, 9), sheetOf(1, 9, 9)} }},
		"too many wants":  {"wants", api.ErrLimit, func(q *question) { q.wants = manyWants(8) }},
		"too many sheets": {"sheets", api.ErrLimit, func(q *question) { q.sheets = manySheets(8) }},
		"grain 3":         {"grain", api.ErrArg, func(q *question) { q.grain = 3 }},
		"turn 2":          {"turn", api.ErrArg, func(q *question) { q.turn = 2 }},
		"bite 4097":       {"bite", api.ErrArg, func(q *question) { q.bite = 4097 }},
		"area of sheets":  {"area", api.ErrArg, func(q *question) { q.used = 7*4096*4096 + 1 }},
		"pocket":          {"pocket", api.ErrArg, func(q *question) { q.pocket.Area++ }},
	}
	for k, n := range far {
		name := string(rune('a' + k))
		out["grain "+name] = wrong{"grain", api.ErrArg, func(q *question) { q.grain = n }}
		out["turn "+name] = wrong{"turn", api.ErrArg, func(q *question) { q.turn = n }}
		out["bite "+name] = wrong{"bite", api.ErrArg, func(q *question) { q.bite = n }}
		out["area "+name] = wrong{"area", api.ErrArg, func(q *question) { q.used = n }}
		out["sheet "+name] = wrong{"sheet", api.ErrArg, func(q *question) { q.sheet.W = n }}
		out["sheets "+name] = wrong{"sheets", api.ErrArg, func(q *question) { q.sheets[0].Grain = n }}
		out["want "+name] = wrong{"want", api.ErrWant, func(q *question) { q.want.Colour = n }}
		out["wants "+name] = wrong{"wants", api.ErrWant, func(q *question) { q.wants[1].Grain = n }}
	}
	for k, p := range badPoints() {
		name := string(rune('a' + k))
		out["at "+name] = wrong{"at", api.ErrArg, func(q *question) { q.at = p }}
		out["u "+name] = wrong{"point", api.ErrArg, func(q *question) { q.u = p }}
		out["m "+name] = wrong{"point", api.ErrArg, func(q *question) { q.m = p }}
		out["v "+name] = wrong{"point", api.ErrArg, func(q *question) { q.v = p }}
	}
	for k, l := range badOutlines() {
		name := string(rune('a' + k))
		out["outline "+name] = wrong{"outline", api.ErrArg, func(q *question) { q.outline = l }}
		out["want outline "+name] = wrong{"want", api.ErrWant, func(q *question) { q.want.Outline = l }}
		out["wants outline "+name] = wrong{"wants", api.ErrWant, func(q *question) { q.wants[0].Outline = l }}
	}
	return out
}

// manyWants are n wants that are valid.
func manyWants(n int) []api.Want {
	return wantsOf(slices.Repeat([][]api.Point{boxed(1, 1)}, n)...)
}

// manySheets are n sheets that are valid.
func manySheets(n int) []api.Sheet {
	var out []api.Sheet
	for k := range n {
		out = append(out, sheetOf(k+1, 9, 9))
	}
	return out
}

// TestErrors makes one argument wrong, and then two.
func TestErrors(t *testing.T) {
	for call, a := range easy().answers() {
		if a.e != api.OK || a.zero && call != "Check" && call != "Least" {
			t.Error("easy", call, a)
		}
	}
	all := wrongs()
	for one, x := range all {
		for two, y := range all {
			if x.uses == y.uses && one != two {
				continue
			}
			q := easy()
			x.spoil(&q)
			if one != two {
				y.spoil(&q)
			}
			for call, a := range q.answers() {
				want := firstError(a.uses, x, y)
				if a.e != want || want != api.OK && !a.zero {
					t.Error(one, two, call, a, want)
				}
			}
		}
	}
}

// firstError returns the error that the section Errors names first, of those that follow for a call.
func firstError(uses []string, all ...wrong) api.Errno {
	for _, e := range []api.Errno{api.ErrWant, api.ErrArg, api.ErrLimit} {
		for _, w := range all {
			if w.e == e && slices.Contains(uses, w.uses) {
				return e
			}
		}
	}
	return api.OK
}

// TestLimits has as many wants and sheets as there may be, and more of them of which one is wrong.
func TestLimits(t *testing.T) {
	q := easy()
	q.wants, q.sheets = manyWants(7), manySheets(7)
	for call, a := range q.answers() {
		if a.e != api.OK && call != "Check" {
			t.Error("seven", call, a)
		}
	}
	q.wants = manyWants(8)
	q.wants[7].Colour = 0
	q.sheets = manySheets(8)
	for call, a := range q.answers() {
		if slices.Contains(a.uses, "wants") && (a.e != api.ErrWant || !a.zero) {
			t.Error("eight wants, one wrong", call, a)
		}
	}
	q.wants = manyWants(8)
	q.sheets[7].H = 0
	for call, a := range q.answers() {
		want := api.OK
		switch {
		case slices.Contains(a.uses, "sheets"):
			want = api.ErrArg
		case slices.Contains(a.uses, "wants"):
			want = api.ErrLimit
		}
		if a.e != want {
			t.Error("eight of both, one sheet wrong", call, a)
		}
	}
}

// TestArgumentsStay checks that no call changes or keeps an argument, and that each result is new.
func TestArgumentsStay(t *testing.T) {
	q, same := easy(), easy()
	q.answers()
	for range 2 {
		c, _ := cutting.Cut(q.wants, q.sheets, 1)
		if !sameCutting(c, same.cutting) {
			t.Error("Cut", c)
		}
		for k := range c.Scores {
			for i := range c.Scores[k].Points {
				if c.Scores[k].Points[i] != same.cutting.Scores[k].Points[i] {
					t.Error("shared memory", c.Scores)
				}
				c.Scores[k].Points[i] = at(-1, -1)
			}
			_ = append(c.Scores[k].Points, at(-2, -2))
		}
		free, _ := cutting.Free(q.outline, 1)
		bites, _ := cutting.Pocket(q.outline, q.pocket, 1)
		turned, _ := cutting.Turned(q.want, 0, at(0, 0))
		free[0].Points[0], bites[0], turned[0] = at(-1, -1), api.Triangle{}, at(-1, -1)
		sizes, _ := cutting.Sizes(q.wants, 0)
		placed, splits, _ := cutting.Lay(q.wants, q.sheet)
		sheets, _, _ := cutting.Assign(q.wants, q.sheets)
		sizes[0], placed[0], splits[0].Points[0], sheets[0] = api.Size{}, api.Placed{}, at(-1, -1), -1
	}
	sameWant := func(v, w api.Want) bool {
		return v.ID == w.ID && v.Colour == w.Colour && v.Grain == w.Grain && slices.Equal(v.Outline, w.Outline)
	}
	if !slices.EqualFunc(q.wants, same.wants, sameWant) || !sameWant(q.want, same.want) || !slices.Equal(q.sheets, same.sheets) ||
		!slices.Equal(q.outline, same.outline) || !sameCutting(q.cutting, same.cutting) {
		t.Error("arguments", q)
	}
}

// TestAnyArguments calls all functions with numbers from anywhere: each comes back, and has nothing else with an error.
func TestAnyArguments(t *testing.T) {
	d := rand.New(rand.NewSource(13))
	wild := func() int {
		return []int{0, 1, 2, 3, 4, 5, 8, -1, 4096, 4097, 65536, math.MaxInt, math.MinInt}[d.Intn(13)]
	}
	count := map[api.Errno]int{}
	for range 4000 {
		q := easy()
		s := cutScene(d)
		if d.Intn(2) == 0 {
			q.wants, q.sheets = s.wants, s.sheets
		}
		for range d.Intn(4) {
			x := &q.cutting.Scores[d.Intn(len(q.cutting.Scores))]
			x.Kind, x.Want, x.Sheet = d.Intn(5), wild(), wild()
			x.Points = append(x.Points, at(wild(), wild()))
		}
		switch d.Intn(6) {
		case 0:
			q.want.Grain, q.grain, q.turn = wild(), wild(), wild()
		case 1:
			q.wants[0].Outline = append(slices.Clone(q.wants[0].Outline), at(wild(), wild()))
		case 2:
			q.sheets[0].W, q.sheet.H = wild(), wild()
		case 3:
			q.cutting.Placed[d.Intn(2)] = api.Placed{Want: d.Intn(3), Sheet: 9, Turn: wild(), At: at(wild(), wild())}
		case 4:
			q.u, q.bite, q.at = at(wild(), wild()), wild(), at(wild(), wild())
		case 5:
			q.pocket, q.area, q.used, q.cutting.Area = api.Pocket{From: wild(), To: wild(), Area: wild()}, wild(), wild(), wild()
		}
		for call, a := range q.answers() {
			if a.e != api.OK && !a.zero && call != "Check" {
				t.Error("more than an error", call, q, a)
			}
			count[a.e]++
		}
	}
	for _, e := range []api.Errno{api.OK, api.ErrArg, api.ErrLimit, api.ErrWant, api.ErrRoom, api.ErrScore, api.ErrWaste, api.ErrPocket} {
		if count[e] < 30 {
			t.Error("few", e, count)
		}
	}
}

package leading_test

import (
	"math"
	"math/rand"
	"slices"
	"testing"

	"leadlight/api"
	"leadlight/leading"
	"leadlight/web"
)

// question is the arguments of all functions.
type question struct {
	panel          api.Panel
	present, order []int
	pane           int
	needs          []api.Need
	axis, swell    int
	positions      []api.Position
	loop           api.Loop
}

// answer is the error of a call, and whether all else in its result is zero.
type answer struct {
	e    api.Errno
	zero bool
}

// answers calls all functions. Their names begin with the argument after the panel that can be wrong first: a list, a list and a pane, a pane, or needs.
func (q question) answers() map[string]answer {
	out := map[string]answer{}
	list := func(name string, l []int, e api.Errno) { out[name] = answer{e, len(l) == 0} }
	is := func(name string, is bool, e api.Errno) { out[name] = answer{e, !is} }
	p, l, id := q.panel, q.present, q.pane
	blocked, e := leading.Blocked(p, l, id)
	list("at Blocked", blocked, e)
	normals, e := leading.Normals(p, l, id)
	out["at Normals"] = answer{e, len(normals) == 0}
	outside, e := leading.Outside(p, l)
	list("list Outside", outside, e)
	way, e := leading.WayOut(p, l, id)
	is("at WayOut", way, e)
	free, e := leading.Free(p, l, id)
	is("at Free", free, e)
	frees, e := leading.Frees(p, l)
	list("list Frees", frees, e)
	stuck, e := leading.Stuck(p, l, id)
	list("at Stuck", stuck, e)
	order, core, e := leading.Apart(p, l)
	out["list Apart"] = answer{e, len(order) == 0 && len(core) == 0}
	e, k := leading.Order(p, l, q.order)
	out["list Order"] = answer{e, k == 0}
	feasible, e := leading.Feasible(p, l)
	is("list Feasible", feasible, e)
	greatest, e := leading.Greatest(p, l)
	list("list Greatest", greatest, e)
	taking, e := leading.Taking(p, l)
	list("list Taking", taking, e)
	back, e := leading.Leading(p, l)
	list("list Leading", back, e)
	opened, e := leading.Opened(p, l)
	list("list Opened", opened, e)
	price, e := leading.Price(p, l)
	out["list Price"] = answer{e, price == 0}
	q.closing(out)
	return out
}

// closing is the part of answers for N16 to N22.
func (q question) closing(out map[string]answer) {
	n, e := leading.NeedOf(q.panel, q.pane, q.swell)
	out["pane NeedOf"] = answer{e, n == 0}
	west, east, south, north, e := leading.Corners(q.panel, q.pane)
	out["pane Corners"] = answer{e, west == 0 && east == 0 && south == 0 && north == 0}
	bounds, e := leading.Bounds(q.panel, q.needs, q.axis)
	out["needs Bounds"] = answer{e, len(bounds) == 0}
	positions, e := leading.Close(q.panel, q.needs)
	out["needs Close"] = answer{e, len(positions) == 0}
	keeps, e := leading.Keeps(q.panel, q.needs, q.positions)
	out["needs Keeps"] = answer{e, !keeps}
	loop, e := leading.FindLoop(q.panel, q.needs)
	out["needs FindLoop"] = answer{e, loop.Axis == 0 && len(loop.Bounds) == 0}
	valid, e := leading.ValidLoop(q.panel, q.needs, q.loop)
	out["needs ValidLoop"] = answer{e, !valid}
}

// wrongPanels are panels that are not valid.
func wrongPanels() map[string]api.Panel {
	noPins, inside, falls, play, meets, bridge := example(3), example(6), example(3, 2), example(3), example(3), example(3)
	noPins.Pins = nil
	play.Pins[0].Play = -1
	meets.Web.Leads[4].B = 2
	bridge.Web.Joints = append(bridge.Web.Joints, api.Joint{ID: 6, At: at(9, 9)})
	bridge.Web.Leads = append(bridge.Web.Leads, api.Lead{ID: 7, A: 3, B: 6})
	return map[string]api.Panel{"no pins": noPins, "lead inside": inside, "open leads fall": falls, "play": play, "leads meet": meets, "bridge": bridge}
}

// TestPanelErrors checks that ErrPanel comes before all other errors, and that nothing comes with it.
func TestPanelErrors(t *testing.T) {
	wrong := question{present: []int{0}, order: []int{9}, needs: []api.Need{{}}, axis: 2, swell: 65}
	right := question{present: []int{1, 2}, order: []int{2}, pane: 1, needs: []api.Need{{Pane: 1}}}
	for name, p := range wrongPanels() {
		wrong.panel, right.panel = p, p
		for _, q := range []question{wrong, right} {
			for call, a := range q.answers() {
				if a != (answer{api.ErrPanel, true}) {
					t.Error(name, call, a)
				}
			}
		}
	}
}

// TestPaneErrors checks the functions with lists that are no lists of panes, and with panes that are none.
func TestPaneErrors(t *testing.T) {
	q := question{panel: example(3), order: []int{9}, swell: 65}
	for _, l := range [][]int{{0}, {3}, {-1}, {1, 1}, {2, 1}, {1, 3}, {1, 2, 3}, {0, 1, 2}, {math.MinInt}, {math.MaxInt}, make([]int, 100)} {
		q.present, q.pane = l, 1
		for call, a := range q.answers() {
			if (call[:2] == "at" || call[:4] == "list") && a != (answer{api.ErrPane, true}) {
				t.Error("list", l, call, a)
			}
		}
	}
	q.present = []int{1, 2}
	for _, q.pane = range []int{0, 3, -1, 64, math.MinInt, math.MaxInt} {
		for call, a := range q.answers() {
			if (call[:2] == "at" || call[:4] == "pane") && a != (answer{api.ErrPane, true}) {
				t.Error("pane", q.pane, call, a)
			}
		}
	}
	nothing := question{present: []int{1}, pane: 1, needs: []api.Need{{Pane: 1}}}
	for call, a := range nothing.answers() {
		want := api.ErrPane
		if call[:5] == "needs" {
			want = api.ErrNeed
		}
		if a != (answer{want, true}) {
			t.Error("in nothing", call, a)
		}
	}
}

// TestNeedErrors checks the functions with needs that are not valid, and those at the limits.
func TestNeedErrors(t *testing.T) {
	q := question{panel: example(3), axis: 2}
	for _, l := range [][]api.Need{
		{{}}, {{Pane: 3}}, {{Pane: -1}}, {{Pane: 1}, {Pane: 1}}, {{Pane: 2}, {Pane: 1}}, {{Pane: 1}, {Pane: 3}}, {{Pane: math.MaxInt}}, {{Pane: math.MinInt}},
		{{Pane: 1, W: 4097}}, {{Pane: 1, W: -4097}}, {{Pane: 1}, {Pane: 2, W: math.MinInt}}, {{Pane: 1, W: math.MaxInt}}, make([]api.Need, 100),
	} {
		q.needs = l
		for call, a := range q.answers() {
			if call[:4] == "need" && a != (answer{api.ErrNeed, true}) {
				t.Error(l, call, a)
			}
		}
	}
	for _, l := range [][]api.Need{nil, {{Pane: 1, W: -4096}}, {{Pane: 2, W: -4096}}, {{Pane: 1, W: -4096}, {Pane: 2, W: 0}}} {
		if l, e := leading.Close(example(3), l); len(l) != 5 || e != api.OK {
			t.Error(l, e)
		}
	}
	if _, e := leading.Close(example(3), []api.Need{{Pane: 1, W: 4096}, {Pane: 2, W: 4096}}); e != api.ErrLoop {
		t.Error(e)
	}
}

// TestArgumentsStay checks that no call changes or keeps an argument, and that each result is new.
func TestArgumentsStay(t *testing.T) {
	p, present, order := example(3, 4), []int{1, 2, 99}[:2], []int{2, 1, 99}[:2]
	needs := []api.Need{{Pane: 1, W: 2}, {Pane: 2, W: 1}, {Pane: 99}}[:2]
	positions, _ := leading.Close(p, nil)
	loop, _ := leading.FindLoop(p, needs)
	givenPositions, givenBounds := slices.Clone(positions), slices.Clone(loop.Bounds)
	q := question{p, present, order, 2, needs, 0, 1, positions, loop}
	q.answers()
	for _, f := range []func(api.Panel, []int) ([]int, api.Errno){leading.Outside, leading.Frees, leading.Greatest, leading.Taking, leading.Leading, leading.Opened} {
		l, _ := f(p, present)
		for k := range l {
			l[k] = -1
		}
		_ = append(l, -1)
	}
	taken, core, _ := leading.Apart(p, present)
	_, _ = append(taken, -1), append(core, -1)
	_, core, _ = leading.Apart(example(3), present)
	core[0] = -1
	again, _ := leading.FindLoop(p, needs)
	again.Bounds[0].Most = 99
	same := example(3, 4)
	if !slices.Equal(p.Web.Joints, same.Web.Joints) || !slices.Equal(p.Web.Leads, same.Web.Leads) || !slices.Equal(p.Open, same.Open) || !slices.Equal(p.Pins, same.Pins) {
		t.Error("panel", p)
	}
	if !slices.Equal(present[:3], []int{1, 2, 99}) || !slices.Equal(order[:3], []int{2, 1, 99}) {
		t.Error("lists", present[:3], order[:3])
	}
	if !slices.Equal(needs[:3], []api.Need{{Pane: 1, W: 2}, {Pane: 2, W: 1}, {Pane: 99}}) {
		t.Error("needs", needs[:3])
	}
	if !slices.Equal(positions, givenPositions) || !slices.Equal(loop.Bounds, givenBounds) {
		t.Error("positions and loop", positions, loop)
	}
}

// TestAnyArguments calls all functions with numbers from anywhere: each comes back, and has the error that its rule names first.
func TestAnyArguments(t *testing.T) {
	d := rand.New(rand.NewSource(13))
	wild := func() int {
		return []int{0, 1, 2, 3, 4, 5, -1, 64, 65, 4096, 65536, math.MaxInt, math.MinInt}[d.Intn(13)]
	}
	count := map[api.Errno]int{}
	for range 1000 {
		q := question{panel: framed(d, thrownWeb(d, 3, 4), 50), pane: wild(), axis: wild(), swell: wild()}
		if d.Intn(4) == 0 {
			spoil(d, &q.panel, wild)
		}
		for range d.Intn(4) {
			q.present, q.order = append(q.present, wild()), append(q.order, wild())
			q.needs = append(q.needs, api.Need{Pane: wild(), W: wild()})
			q.positions = append(q.positions, api.Position{Joint: wild(), At: at(wild(), wild())})
			q.loop.Bounds = append(q.loop.Bounds, api.Bound{From: wild(), To: wild(), Most: wild(), Kind: d.Intn(7), ID: wild()})
		}
		if d.Intn(2) == 0 {
			slices.Sort(q.present)
			q.present = slices.Compact(q.present)
		}
		q.loop.Axis = wild()
		for call, a := range q.answers() {
			if want := q.firstError(call); want != api.OK && a != (answer{want, true}) || want == api.OK && a.e == api.ErrPanel {
				t.Error(call, q, a, want)
			}
			if a.e != api.OK && !a.zero && call != "list Order" {
				t.Error("more than an error", call, q, a)
			}
			count[a.e]++
		}
	}
	for _, e := range []api.Errno{api.OK, api.ErrArg, api.ErrNone, api.ErrPanel, api.ErrPane, api.ErrStuck, api.ErrNeed} {
		if count[e] < 30 {
			t.Error("few", e, count)
		}
	}
}

// spoil changes a number of a panel, or leaves something out.
func spoil(d *rand.Rand, p *api.Panel, wild func() int) {
	switch d.Intn(5) {
	case 0:
		p.Pins = p.Pins[1:]
	case 1:
		p.Pins[0] = api.Pin{Joint: wild(), Play: wild()}
	case 2:
		p.Open = append(p.Open, wild())
	case 3:
		p.Web.Joints[d.Intn(len(p.Web.Joints))].At.X = wild()
	case 4:
		p.Web.Leads[d.Intn(len(p.Web.Leads))].Give = wild()
	}
}

// firstError returns the error that the section Errors names first for a call, if there is one of these.
func (q question) firstError(call string) api.Errno {
	if !web.ValidPanel(q.panel) {
		return api.ErrPanel
	}
	all := know(q.panel).all()
	isList := len(both(q.present, all)) == len(q.present) && slices.Equal(q.present, both(all, q.present))
	isNeeds := true
	for k, n := range q.needs {
		isNeeds = isNeeds && slices.Contains(all, n.Pane) && -4096 <= n.W && n.W <= 4096 && (k == 0 || q.needs[k-1].Pane < n.Pane)
	}
	isPane := slices.Contains(all, q.pane)
	switch {
	case call[:2] == "at" && !(isList && isPane), call[:4] == "list" && !isList, call[:4] == "pane" && !isPane:
		return api.ErrPane
	case call[:4] == "need" && !isNeeds:
		return api.ErrNeed
	case call == "pane NeedOf" && (q.swell < -64 || q.swell > 64), call == "needs Bounds" && q.axis != 0 && q.axis != 1:
		return api.ErrArg
	}
	return api.OK
}

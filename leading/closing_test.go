package leading_test

import (
	"math"
	"math/rand"
	"slices"
	"testing"

	"leadlight/api"
	"leadlight/leading"
)

// TestNeedOf is N16.
func TestNeedOf(t *testing.T) {
	for _, s := range samples() {
		for _, p := range s.panes {
			heart := 0
			for _, side := range slices.Concat(p.Edges...) {
				heart = max(heart, s.lead(side.Lead).Heart)
			}
			for _, swell := range []int{-64, -1, 0, 7, 64} {
				if n, e := leading.NeedOf(s.Panel, p.ID, swell); n != swell+heart || e != api.OK {
					t.Error(s.Panel, p.ID, swell, n, heart, e)
				}
			}
			for _, swell := range []int{-65, 65, math.MinInt, math.MaxInt} {
				if n, e := leading.NeedOf(s.Panel, p.ID, swell); n != 0 || e != api.ErrArg {
					t.Error(s.Panel, p.ID, swell, n, e)
				}
			}
		}
	}
}

// TestCorners is N17.
func TestCorners(t *testing.T) {
	for _, s := range samples() {
		for _, p := range s.panes {
			west, east, south, north, e := leading.Corners(s.Panel, p.ID)
			if want := s.wantCorners(p.ID); want != [4]int{west, east, south, north} || e != api.OK {
				t.Error(s.Panel, p.ID, west, east, south, north, want, e)
			}
		}
	}
	for name, x := range map[string]struct {
		w    api.Web
		want [4]int
	}{
		"square":   {square(4), [4]int{1, 2, 1, 4}},
		"diamond":  {ring(at(2, 0), at(4, 2), at(2, 4), at(0, 2)), [4]int{4, 2, 1, 3}},
		"straight": {ring(at(2, 0), at(4, 0), at(4, 2), at(4, 4), at(2, 4), at(0, 4), at(0, 2), at(0, 0)), [4]int{8, 2, 8, 6}},
	} {
		west, east, south, north, e := leading.Corners(api.Panel{Web: x.w, Pins: pins(1)}, 1)
		if got := [4]int{west, east, south, north}; got != x.want || e != api.OK {
			t.Error(name, got, e)
		}
	}
	if west, east, south, north, e := leading.Corners(example(3), 1); [4]int{west, east, south, north} != [4]int{1, 2, 1, 5} || e != api.OK {
		t.Error("example", west, east, south, north, e)
	}
}

// TestBounds is N18.
func TestBounds(t *testing.T) {
	d := rand.New(rand.NewSource(8))
	for _, s := range samples() {
		for _, needs := range s.someNeeds(d) {
			for axis := range 2 {
				if l, e := leading.Bounds(s.Panel, needs, axis); !slices.Equal(l, s.wantBounds(needs, axis)) || e != api.OK {
					t.Error(s.Panel, needs, axis, l, e)
				}
			}
			for _, axis := range []int{-1, 2, math.MinInt, math.MaxInt} {
				if l, e := leading.Bounds(s.Panel, needs, axis); len(l) != 0 || e != api.ErrArg {
					t.Error(s.Panel, needs, axis, l, e)
				}
			}
		}
	}
	p := example(3)
	p.Pins[0].Play = 3
	x, _ := leading.Bounds(p, []api.Need{{Pane: 1, W: 2}}, 0)
	y, _ := leading.Bounds(p, []api.Need{{Pane: 2, W: -1}}, 1)
	for _, b := range []struct{ got, want api.Bound }{
		{x[0], api.Bound{From: 1, To: 2, Most: 5, Kind: api.BoundLead, ID: 1}},
		{x[1], api.Bound{From: 2, To: 1, Most: -3, Kind: api.BoundBack, ID: 1}},
		{x[12], api.Bound{From: 0, To: 1, Most: 3, Kind: api.BoundPin, ID: 1}},
		{x[13], api.Bound{From: 1, To: 0, Most: 3, Kind: api.BoundUnpin, ID: 1}},
		{x[14], api.Bound{From: 2, To: 1, Most: -6, Kind: api.BoundNeed, ID: 1}},
		{y[14], api.Bound{From: 4, To: 1, Most: -3, Kind: api.BoundNeed, ID: 2}},
	} {
		if b.got != b.want {
			t.Error(b)
		}
	}
}

// TestClosing compares N19 to N22 with their rules, and has P4.6.
func TestClosing(t *testing.T) {
	d := rand.New(rand.NewSource(9))
	count := map[bool]int{}
	for _, s := range samples() {
		for _, needs := range s.someNeeds(d) {
			highest, closes := s.wantPositions(needs, 0)
			count[closes]++
			l, e := leading.Close(s.Panel, needs)
			loop, f := leading.FindLoop(s.Panel, needs)
			if !closes {
				if len(l) != 0 || e != api.ErrLoop || !s.isLoop(needs, loop) || f != api.OK {
					t.Error("no loop", s.Panel, needs, l, e, loop, f)
				}
				if is, e := leading.ValidLoop(s.Panel, needs, loop); !is || e != api.OK {
					t.Error("ValidLoop", s.Panel, needs, loop, is, e)
				}
				continue
			}
			if !slices.Equal(l, highest) || e != api.OK || len(loop.Bounds) != 0 || loop.Axis != 0 || f != api.ErrNone {
				t.Error("Close", s.Panel, needs, l, highest, e, loop, f)
			}
			checkKept(t, d, s, needs, l)
		}
	}
	if count[true] < 200 || count[false] < 200 {
		t.Error("few needs", count)
	}
}

// checkKept is N20 for the greatest positions, the least ones, those a step beyond, and some between them.
func checkKept(t *testing.T, d *rand.Rand, s known, needs []api.Need, highest []api.Position) {
	t.Helper()
	lowest, _ := s.wantPositions(needs, 1)
	for side, l := range [][]api.Position{highest, lowest} {
		if is, e := leading.Keeps(s.Panel, needs, l); !is || e != api.OK {
			t.Error("Keeps", s.Panel, needs, l, is, e)
		}
		by := 1 - 2*side
		for k, p := range l {
			for _, q := range []api.Point{at(p.At.X+by, p.At.Y), at(p.At.X, p.At.Y+by)} {
				moved := slices.Clone(l)
				moved[k].At = q
				if is, e := leading.Keeps(s.Panel, needs, moved); is || e != api.OK {
					t.Error("too far", s.Panel, needs, moved, is, e)
				}
			}
		}
	}
	for range 3 {
		mixed := slices.Clone(highest)
		for k := range mixed {
			mixed[k].At.X -= d.Intn(highest[k].At.X - lowest[k].At.X + 1)
			mixed[k].At.Y -= d.Intn(highest[k].At.Y - lowest[k].At.Y + 1)
		}
		checkKeeps(t, s, needs, mixed)
	}
}

// checkKeeps compares Keeps with its rule.
func checkKeeps(t *testing.T, s known, needs []api.Need, l []api.Position) {
	t.Helper()
	want := true
	for axis := range 2 {
		where := map[int]int{}
		for _, p := range l {
			where[p.Joint] = []int{p.At.X, p.At.Y}[axis]
		}
		for _, b := range s.wantBounds(needs, axis) {
			want = want && where[b.To]-where[b.From] <= b.Most
		}
	}
	if is, e := leading.Keeps(s.Panel, needs, l); is != want || e != api.OK {
		t.Error("Keeps", s.Panel, needs, l, is, want, e)
	}
}

func TestClosingExamples(t *testing.T) {
	p := example(3)
	l, e := leading.Close(p, nil)
	want := []api.Position{{Joint: 1}, {Joint: 2, At: at(5, 1)}, {Joint: 3, At: at(6, 6)}, {Joint: 4, At: at(1, 5)}, {Joint: 5, At: at(5, 3)}}
	if !slices.Equal(l, want) || e != api.OK {
		t.Error("Close", l, e)
	}
	if l, e := leading.Close(p, []api.Need{{Pane: 1, W: 2}}); len(l) != 0 || e != api.ErrLoop {
		t.Error("Close", l, e)
	}
	if l, e := leading.Close(p, []api.Need{{Pane: 1, W: 1}}); len(l) != 5 || e != api.OK {
		t.Error("Close", l, e)
	}
	if l, e := leading.Close(api.Panel{}, nil); len(l) != 0 || e != api.OK {
		t.Error("Close of nothing", l, e)
	}
	if is, e := leading.Keeps(api.Panel{}, nil, nil); !is || e != api.OK {
		t.Error("Keeps of nothing", is, e)
	}
	if l, e := leading.FindLoop(api.Panel{}, nil); len(l.Bounds) != 0 || e != api.ErrNone {
		t.Error("FindLoop in nothing", l, e)
	}
	// What is drawn at the origin may come to lie below it.
	p.Pins = []api.Pin{{Joint: 3}}
	for k := range p.Web.Leads {
		p.Web.Leads[k].Give = 0
	}
	p.Web.Leads[4].Give = 3
	shrunk := slices.Clone(want)
	for k, q := range []api.Point{at(0, 0), at(4, 0), at(4, 4), at(0, 4), at(4, 2)} {
		shrunk[k].At = q
	}
	if l, e := leading.Close(p, nil); !slices.Equal(l, shrunk) || e != api.OK {
		t.Error("Close", l, e)
	}
	p.Pins = []api.Pin{{Joint: 2, Play: 3}}
	for k := range shrunk {
		shrunk[k].At = at(shrunk[k].At.X-2, shrunk[k].At.Y-3)
	}
	if is, e := leading.Keeps(p, nil, shrunk); !is || e != api.OK {
		t.Error("Keeps below the origin", is, e)
	}
}

// TestOneAxis has panels that close on one axis only.
func TestOneAxis(t *testing.T) {
	w := square(4)
	w.Leads[0].Give, w.Leads[2].Give = 2, 2
	p := api.Panel{Web: w, Pins: pins(1)}
	// The leads along X give, and those along Y do not, whatever the pin does.
	for k, play := range []int{0, 2} {
		p.Pins[0].Play = play
		needs := []api.Need{{Pane: 1, W: 1}}
		loop, e := leading.FindLoop(p, needs)
		if loop.Axis != 1 || !know(p).isLoop(needs, loop) || e != api.OK {
			t.Error(k, loop, e)
		}
		if l, e := leading.Close(p, needs); len(l) != 0 || e != api.ErrLoop {
			t.Error(k, l, e)
		}
	}
	w.Leads[0].Give, w.Leads[2].Give, w.Leads[1].Give, w.Leads[3].Give = 0, 0, 2, 2
	needs := []api.Need{{Pane: 1, W: 1}}
	loop, e := leading.FindLoop(p, needs)
	if loop.Axis != 0 || !know(p).isLoop(needs, loop) || e != api.OK {
		t.Error(loop, e)
	}
	// A loop of the other axis is none of this one.
	loop.Axis = 1
	if is, e := leading.ValidLoop(p, needs, loop); is || e != api.OK {
		t.Error(loop, is, e)
	}
}

// TestPinnedApart has a loop through the origin only: the pins are too close together for the need.
func TestPinnedApart(t *testing.T) {
	w := square(4)
	for k := range w.Leads {
		w.Leads[k].Give = 64
	}
	p := api.Panel{Web: w, Pins: []api.Pin{{Joint: 1, Play: 1}, {Joint: 2, Play: 1}, {Joint: 4, Play: 5}}}
	if l, e := leading.Close(p, []api.Need{{Pane: 1, W: 2}}); len(l) != 4 || e != api.OK {
		t.Error(l, e)
	}
	needs := []api.Need{{Pane: 1, W: 3}}
	loop, e := leading.FindLoop(p, needs)
	if len(loop.Bounds) != 3 || loop.Axis != 0 || !know(p).isLoop(needs, loop) || e != api.OK {
		t.Error(loop, e)
	}
	through := func(b api.Bound) bool { return b.From == 0 && b.Kind == api.BoundPin }
	if !slices.ContainsFunc(loop.Bounds, through) {
		t.Error("not through the origin", loop)
	}
}

// TestKeepsShape asks for lists that are no positions of the panel.
func TestKeepsShape(t *testing.T) {
	p := example(3)
	good, _ := leading.Close(p, nil)
	change := func(f func(l []api.Position) []api.Position) []api.Position { return f(slices.Clone(good)) }
	far := func(x, y int) []api.Position {
		return change(func(l []api.Position) []api.Position {
			for k := range l {
				l[k].At = at(x, y)
			}
			return l
		})
	}
	// From the least number, differences would wrap around.
	shifted := func(x, y int) []api.Position {
		return change(func(l []api.Position) []api.Position {
			for k, j := range p.Web.Joints {
				l[k].At = at(x+j.At.X, y+j.At.Y)
			}
			return l
		})
	}
	one := func(k, x, y int) []api.Position {
		return change(func(l []api.Position) []api.Position { l[k].At = at(x, y); return l })
	}
	for name, l := range map[string][]api.Position{
		"none":       nil,
		"too few":    good[:4],
		"too many":   append(slices.Clone(good), api.Position{}),
		"one twice":  append(slices.Clone(good), good[4]),
		"order":      change(func(l []api.Position) []api.Position { l[0], l[1] = l[1], l[0]; return l }),
		"no joint":   change(func(l []api.Position) []api.Position { l[4].Joint = 6; return l }),
		"joint 0":    change(func(l []api.Position) []api.Position { l[0].Joint = 0; return l }),
		"same joint": change(func(l []api.Position) []api.Position { l[1].Joint = 1; return l }),
		"x too high": one(2, 1000001, 6),
		"y too high": one(2, 6, 1000001),
		"x too low":  one(2, -1000001, 6),
		"y too low":  one(2, 6, -1000001),
		"far":        far(1000000, -1000000),
		"least":      far(math.MinInt, math.MinInt),
		"greatest":   far(math.MaxInt, math.MaxInt),
		"least x":    far(math.MinInt, 0),
		"least y":    far(0, math.MinInt),
		"wrapped x":  shifted(math.MinInt, 0),
		"wrapped y":  shifted(0, math.MinInt),
	} {
		if is, e := leading.Keeps(p, nil, l); is || e != api.OK {
			t.Error(name, is, e)
		}
	}
	if is, e := leading.Keeps(p, nil, good); !is || e != api.OK {
		t.Error("good", is, e)
	}
	if is, e := leading.Keeps(p, []api.Need{{Pane: 1, W: 1}, {Pane: 2, W: 2}}, good); is || e != api.OK {
		t.Error("not with needs", is, e)
	}
	if is, e := leading.Keeps(api.Panel{}, nil, good[:1]); is || e != api.OK {
		t.Error("in nothing", is, e)
	}
}

// TestValidLoop asks for loops that are none.
func TestValidLoop(t *testing.T) {
	p := example(3)
	needs := []api.Need{{Pane: 1, W: 2}}
	lead := api.Bound{From: 1, To: 2, Most: 5, Kind: api.BoundLead, ID: 1}
	back := api.Bound{From: 2, To: 1, Most: -3, Kind: api.BoundBack, ID: 1}
	need := api.Bound{From: 2, To: 1, Most: -6, Kind: api.BoundNeed, ID: 1}
	across := api.Bound{From: 1, To: 5, Most: 5, Kind: api.BoundLead, ID: 6}
	down := api.Bound{From: 5, To: 2, Most: 1, Kind: api.BoundBack, ID: 2}
	with := func(b api.Bound, f func(b *api.Bound)) []api.Bound { f(&b); return []api.Bound{lead, b} }
	upwards := []api.Bound{{From: 1, To: 5, Most: 3, Kind: api.BoundLead, ID: 6}, {From: 5, To: 1, Most: -4, Kind: api.BoundNeed, ID: 1}}
	for name, x := range map[string]struct {
		loop api.Loop
		want bool
	}{
		"loop":            {api.Loop{Bounds: []api.Bound{lead, need}}, true},
		"from elsewhere":  {api.Loop{Bounds: []api.Bound{need, lead}}, true},
		"twice":           {api.Loop{Bounds: []api.Bound{lead, need, lead, need}}, true},
		"with another":    {api.Loop{Bounds: []api.Bound{lead, need, lead, back, lead, need, lead, need, lead, need}}, true},
		"sum 0":           {api.Loop{Bounds: []api.Bound{across, down, need}}, false},
		"sum 1":           {api.Loop{Bounds: []api.Bound{lead, need, lead, back}}, false},
		"sum 2":           {api.Loop{Bounds: []api.Bound{lead, back}}, false},
		"nothing":         {api.Loop{}, false},
		"axis 1":          {api.Loop{Axis: 1, Bounds: []api.Bound{lead, need}}, false},
		"axis 2":          {api.Loop{Axis: 2, Bounds: []api.Bound{lead, need}}, false},
		"axis -1":         {api.Loop{Axis: -1, Bounds: []api.Bound{lead, need}}, false},
		"up on axis 1":    {api.Loop{Axis: 1, Bounds: upwards}, true},
		"up on axis 0":    {api.Loop{Axis: 0, Bounds: upwards}, false},
		"up on axis 2":    {api.Loop{Axis: 2, Bounds: upwards}, false},
		"up on axis -1":   {api.Loop{Axis: -1, Bounds: upwards}, false},
		"up on any axis":  {api.Loop{Axis: math.MaxInt, Bounds: upwards}, false},
		"not closed":      {api.Loop{Bounds: []api.Bound{need}}, false},
		"not closed, two": {api.Loop{Bounds: []api.Bound{need, back}}, false},
		"gap":             {api.Loop{Bounds: []api.Bound{across, need}}, false},
		"gap inside":      {api.Loop{Bounds: []api.Bound{need, down}}, false},
		"gap at the end":  {api.Loop{Bounds: []api.Bound{need, across}}, false},
		"other Most":      {api.Loop{Bounds: with(need, func(b *api.Bound) { b.Most = -7 })}, false},
		"least Most":      {api.Loop{Bounds: with(need, func(b *api.Bound) { b.Most = math.MinInt })}, false},
		"other Kind":      {api.Loop{Bounds: with(need, func(b *api.Bound) { b.Kind = api.BoundBack })}, false},
		"other ID":        {api.Loop{Bounds: with(need, func(b *api.Bound) { b.ID = 2 })}, false},
		"other joint":     {api.Loop{Bounds: []api.Bound{{From: 1, To: 3, Most: 5, Kind: 1, ID: 1}, {From: 3, To: 1, Most: -6, Kind: 5, ID: 1}}}, false},
		"1000 times":      {api.Loop{Bounds: slices.Repeat([]api.Bound{lead, need}, 1000)}, true},
		"1001 times":      {api.Loop{Bounds: slices.Repeat([]api.Bound{lead, need}, 1001)}, false},
		"2001 bounds":     {api.Loop{Bounds: slices.Concat(slices.Repeat([]api.Bound{lead, need}, 999), []api.Bound{across, down, need})}, false},
		"1999 bounds":     {api.Loop{Bounds: slices.Concat(slices.Repeat([]api.Bound{lead, need}, 998), []api.Bound{across, down, need})}, true},
	} {
		if x.want != know(p).isLoop(needs, x.loop) && len(x.loop.Bounds) <= 2000 {
			t.Error("the test is wrong", name)
		}
		if is, e := leading.ValidLoop(p, needs, x.loop); is != x.want || e != api.OK {
			t.Error(name, is, e)
		}
	}
	if is, e := leading.ValidLoop(p, nil, api.Loop{Bounds: []api.Bound{lead, need}}); is || e != api.OK {
		t.Error("without the need", is, e)
	}
}

// TestMonotone is P4.7.
func TestMonotone(t *testing.T) {
	d := rand.New(rand.NewSource(10))
	for _, s := range samples() {
		for _, needs := range s.someNeeds(d) {
			l, e := leading.Close(s.Panel, needs)
			if e != api.OK {
				continue
			}
			looser := api.Panel{Web: api.Web{Joints: s.Web.Joints, Leads: slices.Clone(s.Web.Leads)}, Pins: slices.Clone(s.Pins)}
			for k := range looser.Web.Leads {
				looser.Web.Leads[k].Give += d.Intn(3)
			}
			for k := range looser.Pins {
				looser.Pins[k].Play += d.Intn(3)
			}
			var less []api.Need
			for _, n := range needs {
				if d.Intn(3) > 0 {
					less = append(less, api.Need{Pane: n.Pane, W: max(n.W-d.Intn(3), -api.MaxNeed)})
				}
			}
			for k, more := range [][]api.Position{closed(looser, needs), closed(s.Panel, less), closed(looser, less)} {
				if len(more) != len(l) || !slices.EqualFunc(l, more, notBelow) {
					t.Error(k, s.Panel, needs, looser, less, l, more)
				}
			}
		}
	}
}

// closed returns what Close does, if there is no error.
func closed(p api.Panel, needs []api.Need) []api.Position {
	l, _ := leading.Close(p, needs)
	return l
}

// notBelow reports whether no coordinate of q is less than that of p.
func notBelow(p, q api.Position) bool {
	return p.Joint == q.Joint && p.At.X <= q.At.X && p.At.Y <= q.At.Y
}

// TestAsDrawn is P4.8.
func TestAsDrawn(t *testing.T) {
	d := rand.New(rand.NewSource(11))
	for _, s := range samples() {
		var drawn []api.Position
		for _, j := range s.Web.Joints {
			drawn = append(drawn, api.Position{Joint: j.ID, At: j.At})
		}
		for range 3 {
			var needs []api.Need
			for _, pane := range part(d, s.all()) {
				needs = append(needs, api.Need{Pane: pane, W: -d.Intn(3) * d.Intn(api.MaxNeed/2+1)})
			}
			l, e := leading.Close(s.Panel, needs)
			if e != api.OK || len(l) != len(drawn) || !slices.EqualFunc(drawn, l, notBelow) {
				t.Error(s.Panel, needs, l, e)
			}
			if is, e := leading.Keeps(s.Panel, needs, drawn); !is || e != api.OK {
				t.Error("Keeps", s.Panel, needs, is, e)
			}
		}
	}
}

// longRing is a square pane with 200 joints on its border, each lead of which gives 1. The leads come in the order against which they are walked from the pin, so that each bound waits for the next one.
func longRing() api.Panel {
	var points []api.Point
	for k := range 200 {
		a, b := 3*(k%50), 150
		points = append(points, []api.Point{at(a, 0), at(b, a), at(b-a, b), at(0, b-a)}[k/50])
	}
	w := ring(points...)
	slices.Reverse(w.Leads)
	for k := range w.Leads {
		w.Leads[k].ID, w.Leads[k].Give = k+1, 1
	}
	return api.Panel{Web: w, Pins: pins(1)}
}

// TestMostJoints closes a pane with 200 joints, and finds the loops around it.
func TestMostJoints(t *testing.T) {
	s := know(longRing())
	for _, x := range []struct {
		w      int
		closes bool
	}{{0, true}, {50, true}, {51, false}, {4096, false}} {
		needs := []api.Need{{Pane: 1, W: x.w}}
		want, closes := s.wantPositions(needs, 0)
		l, e := leading.Close(s.Panel, needs)
		loop, f := leading.FindLoop(s.Panel, needs)
		if closes != x.closes {
			t.Error("the test is wrong", x)
		}
		if closes && (!slices.Equal(l, want) || e != api.OK || f != api.ErrNone) {
			t.Error("Close", x, l, e, f)
		}
		if is, _ := leading.ValidLoop(s.Panel, needs, loop); !closes && (e != api.ErrLoop || f != api.OK || !is) {
			t.Error("FindLoop", x, e, f, is, loop)
		}
	}
}

// halved splits the leads of a lattice in their middle, until there are so many joints.
func halved(w api.Web, joints int) api.Web {
	for k := 0; len(w.Joints) < joints; k++ {
		l := w.Leads[k]
		a, b := w.Joints[l.A-1].At, w.Joints[l.B-1].At
		middle := len(w.Joints) + 1
		w.Joints = append(w.Joints, api.Joint{ID: middle, At: at((a.X+b.X)/2, (a.Y+b.Y)/2)})
		w.Leads[k].B = middle
		w.Leads = append(w.Leads, api.Lead{ID: len(w.Leads) + 1, A: middle, B: l.B})
	}
	return w
}

// TestMostBounds closes panels with many panes, needs and leads.
func TestMostBounds(t *testing.T) {
	d := rand.New(rand.NewSource(12))
	w := halved(lattice(8, 8, 6), 200)
	for k := range w.Leads {
		w.Leads[k].Give = d.Intn(3)
	}
	s := know(framed(d, w, 50))
	if len(s.panes) != 64 {
		t.Fatal(len(s.panes))
	}
	count := map[bool]int{}
	for _, reach := range []int{0, 1, 2, 3, 4, 5, 6, 8} {
		var needs []api.Need
		for _, pane := range s.all() {
			needs = append(needs, api.Need{Pane: pane, W: d.Intn(reach+1) - 1})
		}
		want, closes := s.wantPositions(needs, 0)
		count[closes]++
		l, e := leading.Close(s.Panel, needs)
		loop, f := leading.FindLoop(s.Panel, needs)
		if closes && (!slices.Equal(l, want) || e != api.OK || f != api.ErrNone) {
			t.Error("Close", needs, l, e, f)
		}
		if !closes && (e != api.ErrLoop || f != api.OK || !s.isLoop(needs, loop)) {
			t.Error("FindLoop", needs, e, f, loop)
		}
	}
	if count[true] == 0 || count[false] == 0 {
		t.Error(count)
	}
}

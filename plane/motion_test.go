package plane_test

import (
	"math"
	"slices"
	"testing"

	"leadlight/api"
	"leadlight/plane"
)

// badMotions are motions that are not valid, each for one reason.
func badMotions() []api.Motion {
	var out []api.Motion
	for _, turn := range []int{-1, 4, math.MinInt, math.MaxInt} {
		out = append(out, api.Motion{Turn: turn}, api.Motion{Turn: turn, Mirror: true})
	}
	for _, far := range []int{8193, -8193, math.MinInt, math.MaxInt} {
		out = append(out, api.Motion{By: at(far, 0)}, api.Motion{By: at(0, far)})
	}
	return out
}

// motions are all turns, mirrored and not, by each of some vectors.
func motions(by ...api.Point) []api.Motion {
	var out []api.Motion
	for turn := range 4 {
		for _, p := range by {
			out = append(out, api.Motion{Turn: turn, By: p}, api.Motion{Turn: turn, Mirror: true, By: p})
		}
	}
	return out
}

// mapped is where a motion maps a point, in the chapter's three steps.
func mapped(m api.Motion, p api.Point) api.Point {
	if m.Mirror {
		p = at(-p.X, p.Y)
	}
	for range m.Turn {
		p = at(-p.Y, p.X)
	}
	return at(p.X+m.By.X, p.Y+m.By.Y)
}

func TestValidMotion(t *testing.T) {
	for _, m := range motions(at(0, 0), at(8192, 0), at(-8192, 0), at(0, 8192), at(0, -8192), at(8192, -8192)) {
		if !plane.ValidMotion(m) {
			t.Error("valid", m)
		}
	}
	for _, m := range badMotions() {
		if plane.ValidMotion(m) {
			t.Error("not valid", m)
		}
	}
}

func TestMove(t *testing.T) {
	for name, x := range map[string]struct {
		l    []api.Point
		m    api.Motion
		want []api.Point
		s    api.Setting
		e    api.Errno
	}{
		"example":       {notched(), api.Motion{Turn: 1, By: at(4, 0)}, pts(0, 0, 4, 0, 4, 4, 0, 4, 3, 2), api.Setting{Shift: 1}, api.OK},
		"nothing":       {notched(), api.Motion{}, notched(), api.Setting{}, api.OK},
		"half turn":     {notched(), api.Motion{Turn: 2, By: at(4, 4)}, pts(0, 0, 2, 3, 4, 0, 4, 4, 0, 4), api.Setting{Shift: 3}, api.OK},
		"to the right":  {notched(), api.Motion{Turn: 3, By: at(0, 4)}, pts(0, 0, 4, 0, 1, 2, 4, 4, 0, 4), api.Setting{Shift: 4}, api.OK},
		"mirrored":      {notched(), api.Motion{Mirror: true, By: at(4, 0)}, notched(), api.Setting{Back: true}, api.OK},
		"turned mirror": {notched(), api.Motion{Turn: 1, Mirror: true, By: at(4, 4)}, pts(0, 0, 4, 0, 4, 4, 0, 4, 3, 2), api.Setting{Shift: 1, Back: true}, api.OK},
		"shifted":       {notched(), api.Motion{By: at(4092, 4092)}, pts(4092, 4092, 4096, 4092, 4096, 4096, 4094, 4093, 4092, 4096), api.Setting{}, api.OK},
		"too far right": {notched(), api.Motion{By: at(4093, 0)}, nil, api.Setting{}, api.ErrLimit},
		"too far up":    {notched(), api.Motion{By: at(0, 4093)}, nil, api.Setting{}, api.ErrLimit},
		"too far left":  {notched(), api.Motion{By: at(-1, 0)}, nil, api.Setting{}, api.ErrLimit},
		"too far down":  {notched(), api.Motion{By: at(0, -1)}, nil, api.Setting{}, api.ErrLimit},
		"turned away":   {notched(), api.Motion{Turn: 1}, nil, api.Setting{}, api.ErrLimit},
		"from far away": {square(4096), api.Motion{Turn: 2, By: at(4096, 4096)}, square(4096), api.Setting{Shift: 2}, api.OK},
		"diagonal":      {pts(1, 1, 3, 2, 2, 3), api.Motion{Turn: 3, Mirror: true}, pts(1, 1, 3, 2, 2, 3), api.Setting{Shift: 2, Back: true}, api.OK},
	} {
		l, s, e := plane.Move(x.l, x.m)
		if !slices.Equal(l, x.want) || s != x.s || e != x.e {
			t.Error(name, l, s, e)
		}
	}
	for _, m := range badMotions() {
		if l, s, e := plane.Move(square(2), m); len(l) > 0 || s != (api.Setting{}) || e != api.ErrArg {
			t.Error("motion", m, l, s, e)
		}
	}
}

// TestMoved is P1.6 for outlines.
func TestMoved(t *testing.T) {
	for _, l := range someOutlines() {
		_, high, _ := plane.Box(l)
		far := max(high.X, high.Y)
		for _, m := range motions(at(0, 0), at(far, 0), at(0, far), at(far, far)) {
			checkMove(t, l, m)
		}
	}
}

func checkMove(t *testing.T, l []api.Point, m api.Motion) {
	t.Helper()
	var raw []api.Point
	outside := false
	for _, p := range l {
		raw = append(raw, mapped(m, p))
		outside = outside || !plane.ValidPoint(mapped(m, p))
	}
	got, s, e := plane.Move(l, m)
	if outside {
		if len(got) > 0 || s != (api.Setting{}) || e != api.ErrLimit {
			t.Fatal("outside", l, m, got, s, e)
		}
		return
	}
	want, _ := plane.Outline(raw)
	if !slices.Equal(got, want) || e != api.OK || area(t, got) != area(t, l) || s.Back != m.Mirror {
		t.Fatal("moved", l, m, got, s, e)
	}
	n := len(l)
	bends, _ := plane.Bends(l)
	bendsGot, _ := plane.Bends(got)
	for i := range l {
		k, e := plane.Edge(s, n, i)
		ends, own := []api.Point{got[k], got[(k+1)%n]}, []api.Point{raw[i], raw[(i+1)%n]}
		start := slices.Index(got, raw[i])
		if m.Mirror {
			slices.Reverse(ends)
		}
		if !slices.Equal(ends, own) || e != api.OK || bends[i] != bendsGot[start] {
			t.Fatal("edge", l, m, i, s)
		}
	}
	if all, _ := plane.Settings(l, got); !slices.Contains(all, s) {
		t.Fatal("setting", l, m, s, all)
	}
	back, e := plane.InvertMotion(m)
	if again, inverse, e2 := plane.Move(got, back); !slices.Equal(again, l) || e != api.OK || e2 != api.OK {
		t.Fatal("back", l, m, back, again)
	} else if want, _ := plane.Inverse(s, n); inverse != want {
		t.Fatal("setting back", l, m, inverse, want)
	}
}

func TestInvertMotion(t *testing.T) {
	for _, x := range []struct{ m, want api.Motion }{
		{api.Motion{Turn: 1, By: at(4, 0)}, api.Motion{Turn: 3, By: at(0, 4)}},
		{api.Motion{}, api.Motion{}},
		{api.Motion{Turn: 2, By: at(3, 5)}, api.Motion{Turn: 2, By: at(3, 5)}},
		{api.Motion{Mirror: true, By: at(3, 5)}, api.Motion{Mirror: true, By: at(3, -5)}},
		{api.Motion{Turn: 1, Mirror: true, By: at(3, 5)}, api.Motion{Turn: 1, Mirror: true, By: at(5, 3)}},
		{api.Motion{Turn: 3, By: at(8192, -8192)}, api.Motion{Turn: 1, By: at(-8192, -8192)}},
	} {
		if m, e := plane.InvertMotion(x.m); m != x.want || e != api.OK {
			t.Error(x, m, e)
		}
	}
	for _, m := range motions(at(0, 0), at(3, 5), at(-8192, 8192), at(17, -8000)) {
		back, e := plane.InvertMotion(m)
		if e != api.OK || !plane.ValidMotion(back) {
			t.Error(m, back, e)
		}
		for _, p := range pts(0, 0, 1, 0, 0, 1, 4096, 17) {
			if mapped(back, mapped(m, p)) != p || mapped(m, mapped(back, p)) != p {
				t.Error(m, back, p)
			}
		}
	}
	for _, m := range badMotions() {
		if n, e := plane.InvertMotion(m); n != (api.Motion{}) || e != api.ErrArg {
			t.Error(m, n, e)
		}
	}
}

func TestComposeMotions(t *testing.T) {
	far, mirror := api.Motion{By: at(8192, -8192)}, api.Motion{Mirror: true, By: at(4, 0)}
	for _, x := range []struct {
		m, n, want api.Motion
		e          api.Errno
	}{
		{api.Motion{Turn: 1, By: at(4, 0)}, mirror, api.Motion{Turn: 3, Mirror: true}, api.OK},
		{mirror, api.Motion{Turn: 1, By: at(4, 0)}, api.Motion{Turn: 1, Mirror: true, By: at(4, 4)}, api.OK},
		{far, api.Motion{}, far, api.OK},
		{far, api.Motion{By: at(1, 0)}, api.Motion{}, api.ErrLimit},
		{far, api.Motion{By: at(0, -1)}, api.Motion{}, api.ErrLimit},
		{api.Motion{By: at(-8192, 8192)}, api.Motion{By: at(-1, 0)}, api.Motion{}, api.ErrLimit},
		{api.Motion{By: at(-8192, 8192)}, api.Motion{By: at(0, 1)}, api.Motion{}, api.ErrLimit},
		{far, api.Motion{By: at(-8192, 8192)}, api.Motion{}, api.OK},
		{far, api.Motion{Turn: 2, By: at(8192, -8192)}, api.Motion{Turn: 2}, api.OK},
		{far, far, api.Motion{}, api.ErrLimit},
	} {
		if m, e := plane.ComposeMotions(x.m, x.n); m != x.want || e != x.e {
			t.Error(x, m, e)
		}
	}
	for _, m := range badMotions() {
		for _, x := range [][2]api.Motion{{m, {}}, {{}, m}, {m, far}, {far, m}, {m, m}} {
			if n, e := plane.ComposeMotions(x[0], x[1]); n != (api.Motion{}) || e != api.ErrArg {
				t.Error(x, n, e)
			}
		}
	}
}

// TestMoveTwice is P1.6 for composed motions.
func TestMoveTwice(t *testing.T) {
	all := motions(at(0, 0), at(100, 90), at(7, 120), at(150, 3))
	l := pts(40, 50, 44, 50, 44, 54, 42, 51, 40, 54)
	for _, m := range all {
		for _, n := range all {
			both, e := plane.ComposeMotions(m, n)
			if e != api.OK || both.Turn < 0 || both.Turn > 3 {
				t.Fatal(m, n, both, e)
			}
			for _, p := range l {
				if mapped(both, p) != mapped(n, mapped(m, p)) {
					t.Fatal(m, n, both, p)
				}
			}
			checkMoveTwice(t, l, m, n, both)
		}
	}
}

func checkMoveTwice(t *testing.T, l []api.Point, m, n, both api.Motion) {
	t.Helper()
	first, s, e := plane.Move(l, m)
	if e != api.OK {
		return
	}
	second, r, e := plane.Move(first, n)
	if e != api.OK {
		return
	}
	once, q, e := plane.Move(l, both)
	if c, _ := plane.Compose(s, r, len(l)); !slices.Equal(once, second) || c != q || e != api.OK {
		t.Fatal(m, n, once, second, q, c, e)
	}
}

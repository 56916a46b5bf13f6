package cutting_test

import (
	"math"
	"math/rand"
	"slices"
	"testing"

	"leadlight/api"
	"leadlight/cutting"
	"leadlight/plane"
)

// TestValid is E1, at all limits.
func TestValid(t *testing.T) {
	inside := func(n, lo, hi int) bool { return lo <= n && n <= hi }
	numbers := []int{math.MinInt, -1, 0, 1, 2, 3, 16, 17, 4096, 4097, 65535, 65536, math.MaxInt}
	for _, n := range numbers {
		for _, x := range []struct {
			name  string
			sheet api.Sheet
			want  bool
		}{
			{"ID", api.Sheet{ID: n, Colour: 1, W: 1, H: 1}, inside(n, 1, 65535)},
			{"Colour", api.Sheet{ID: 1, Colour: n, W: 1, H: 1}, inside(n, 1, 16)},
			{"W", api.Sheet{ID: 1, Colour: 1, W: n, H: 1}, inside(n, 1, 4096)},
			{"H", api.Sheet{ID: 1, Colour: 1, W: 1, H: n}, inside(n, 1, 4096)},
			{"Grain", api.Sheet{ID: 1, Colour: 1, W: 1, H: 1, Grain: n}, inside(n, 0, 2)},
		} {
			if got := cutting.ValidSheet(x.sheet); got != x.want {
				t.Error("sheet", x.name, n, got)
			}
		}
		for _, x := range []struct {
			name string
			w    api.Want
			want bool
		}{
			{"ID", api.Want{ID: n, Colour: 1, Outline: notched()}, inside(n, 1, 65535)},
			{"Colour", api.Want{ID: 1, Colour: n, Outline: notched()}, inside(n, 1, 16)},
			{"Grain", api.Want{ID: 1, Colour: 1, Grain: n, Outline: notched()}, inside(n, 0, 2)},
		} {
			if got := cutting.ValidWant(x.w); got != x.want {
				t.Error("want", x.name, n, got)
			}
		}
	}
	for _, l := range badOutlines() {
		if cutting.ValidWant(api.Want{ID: 1, Colour: 1, Outline: l}) {
			t.Error("outline", l)
		}
	}
	if cutting.ValidSheet(api.Sheet{}) || cutting.ValidWant(api.Want{}) {
		t.Error("zero")
	}
}

// TestAllowed is E2, for all grains and turns.
func TestAllowed(t *testing.T) {
	for wants := range 3 {
		for grain := range 3 {
			for turn := range 2 {
				w := api.Want{ID: 1, Colour: 1, Grain: wants, Outline: notched()}
				ok, e := cutting.Allowed(w, grain, turn)
				if ok != slices.Contains(turns(w, grain), turn) || e != api.OK {
					t.Error(wants, grain, turn, ok, e)
				}
			}
		}
	}
}

// TestTurned is E3 and E4.
func TestTurned(t *testing.T) {
	d := rand.New(rand.NewSource(3))
	for _, l := range someOutlines() {
		w := api.Want{ID: 1, Colour: 1, Outline: moved(l, d.Intn(20), d.Intn(20))}
		for turn := range 2 {
			size, e := cutting.BoxOf(w, turn)
			if size != sizeOf(w, turn) || e != api.OK {
				t.Error("BoxOf", w, turn, size, e)
			}
			p := at(d.Intn(1000), d.Intn(1000))
			got, e := cutting.Turned(w, turn, p)
			if !slices.Equal(got, lying(w, turn, p)) || e != api.OK {
				t.Error("Turned", w, turn, p, got, e)
			}
		}
	}
}

func TestTurnedExamples(t *testing.T) {
	x := example()[1]
	if s, e := cutting.BoxOf(x, 1); s != (api.Size{W: 2, H: 6}) || e != api.OK {
		t.Error("BoxOf", s, e)
	}
	if l, e := cutting.Turned(x, 1, at(0, 0)); !slices.Equal(l, pts(2, 0, 2, 6, 0, 6, 0, 0)) || e != api.OK {
		t.Error("Turned", l, e)
	}
	// An outline does not have to lie at the origin, nor to fill its box.
	w := api.Want{ID: 1, Colour: 1, Outline: pts(3, 7, 5, 5, 9, 6)}
	if s, e := cutting.BoxOf(w, 0); s != (api.Size{W: 6, H: 2}) || e != api.OK {
		t.Error("BoxOf", s, e)
	}
	if l, e := cutting.Turned(w, 1, at(1, 2)); !slices.Equal(l, pts(1, 2, 3, 4, 2, 8)) || e != api.OK {
		t.Error("Turned", l, e)
	}
}

// TestTurnedLimit is ErrLimit of E4, on both sides of the limit.
func TestTurnedLimit(t *testing.T) {
	w := api.Want{ID: 1, Colour: 1, Outline: pts(7, 7, 13, 7, 13, 9, 7, 9)}
	for _, x := range []struct {
		turn int
		at   api.Point
		want api.Errno
	}{
		{0, at(4090, 4094), api.OK}, {0, at(4091, 4094), api.ErrLimit}, {0, at(4090, 4095), api.ErrLimit},
		{1, at(4094, 4090), api.OK}, {1, at(4095, 4090), api.ErrLimit}, {1, at(4094, 4091), api.ErrLimit},
		{0, at(4096, 4096), api.ErrLimit}, {1, at(4096, 0), api.ErrLimit}, {1, at(0, 0), api.OK},
	} {
		l, e := cutting.Turned(w, x.turn, x.at)
		if e != x.want || (e == api.OK) != (len(l) == 4) {
			t.Error(x, l, e)
		}
		for _, p := range l {
			if !plane.ValidPoint(p) {
				t.Error(x, p)
			}
		}
	}
	great := api.Want{ID: 1, Colour: 1, Outline: boxed(4096, 4096)}
	if l, e := cutting.Turned(great, 1, at(0, 0)); !slices.Equal(l, pts(4096, 0, 4096, 4096, 0, 4096, 0, 0)) || e != api.OK {
		t.Error("great", l, e)
	}
}

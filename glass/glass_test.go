package glass_test

import (
	"fmt"
	"math"
	"slices"
	"testing"

	"leadlight/api"
	"leadlight/glass"
)

func TestValidPiece(t *testing.T) {
	for _, p := range pieces(t) {
		if !glass.ValidPiece(p) {
			t.Error("valid", p)
		}
	}
	for name, f := range map[string]func(p *api.Piece){
		"least":        func(p *api.Piece) { p.ID, p.Colour, p.Reverse, p.Made, p.Swell = 1, 1, 1, 0, -64 },
		"greatest":     func(p *api.Piece) { p.ID, p.Colour, p.Reverse, p.Made, p.Swell = 65535, 16, 16, 9999, 64 },
		"no marks":     func(p *api.Piece) { p.Marks = nil },
		"32 marks":     func(p *api.Piece) { p.Marks = manyMarks(3, 32) },
		"first mark":   func(p *api.Piece) { p.Marks = []api.Mark{mark(0, 0, 1)} },
		"last mark":    func(p *api.Piece) { p.Marks = []api.Mark{mark(3, 16, 16)} },
		"by At":        func(p *api.Piece) { p.Marks = []api.Mark{mark(0, 4, 2), mark(0, 5, 1)} },
		"by Tone":      func(p *api.Piece) { p.Marks = []api.Mark{mark(0, 4, 1), mark(0, 4, 2)} },
		"by Edge":      func(p *api.Piece) { p.Marks = []api.Mark{mark(0, 4, 2), mark(1, 3, 1)} },
		"three gauges": func(p *api.Piece) { p.Gauges = p.Gauges[:3] },
		"24 gauges":    func(p *api.Piece) { p.Gauges = slices.Repeat(p.Gauges[:1], 24) },
		"widest":       func(p *api.Piece) { p.Gauges[0] = api.Gauge{Edge: span(1, 33554432), Across: span(0, 33554432)} },
		"narrowest":    func(p *api.Piece) { p.Gauges[0] = api.Gauge{Edge: only(1), Across: only(0), Bend: -1} },
		"largest":      func(p *api.Piece) { p.Gauges[0] = api.Gauge{Edge: only(33554432), Across: only(33554432)} },
	} {
		p := example()
		f(&p)
		if !glass.ValidPiece(p) {
			t.Error("valid", name)
		}
	}
	for _, p := range badPieces() {
		if glass.ValidPiece(p) {
			t.Error("not valid", p)
		}
	}
}

func TestShows(t *testing.T) {
	for _, s := range allSettings(4) {
		want := 2
		if s.Back {
			want = 3
		}
		if n, e := glass.Shows(example(), s); n != want || e != api.OK {
			t.Error(s, n, e)
		}
	}
}

func TestHeld(t *testing.T) {
	for _, x := range []struct {
		swell   int
		flanges []int
		want    bool
	}{
		{-2, []int{2, 3}, true}, {-3, []int{2, 3}, false}, {-3, []int{3, 2}, false}, {-3, []int{3, 3}, true},
		{0, []int{0}, true}, {-1, []int{0}, false}, {5, []int{0, 0}, true}, {64, []int{0}, true},
		{-64, nil, true}, {-64, []int{63}, false}, {-64, []int{64}, true}, {-64, []int{math.MaxInt, 64}, true}, {64, []int{math.MaxInt}, true},
		{-1, make([]int, 400), false}, {0, make([]int, 400), true}, {-64, slices.Repeat([]int{64}, 400), true},
	} {
		if ok, e := glass.Held(x.swell, x.flanges); ok != x.want || e != api.OK {
			t.Error(x.swell, x.flanges, ok, e)
		}
	}
	for swell := -64; swell <= 64; swell++ {
		for flange := range 70 {
			if ok, e := glass.Held(swell, []int{70, flange}); ok != (swell+flange >= 0) || e != api.OK {
				t.Error(swell, flange, ok, e)
			}
		}
	}
	for _, swell := range append(extremes(), -65, 65) {
		if ok, e := glass.Held(swell, []int{64}); ok || e != api.ErrArg {
			t.Error(swell, ok, e)
		}
	}
	for _, flanges := range [][]int{{-1}, {3, -1}, {3, math.MinInt}, {-1, 3}, make([]int, 401)} {
		if ok, e := glass.Held(0, flanges); ok || e != api.ErrArg {
			t.Error(flanges, ok, e)
		}
	}
}

// wantError checks that a call returned this error, and nothing with it.
func wantError(t *testing.T, name string, got, want api.Errno, empty bool) {
	t.Helper()
	if got != want || !empty {
		t.Error(name, "error:", got, "not", want, "or a result")
	}
}

// TestPieceErrors checks that ErrPiece comes before all others. Each call is wrong in its other arguments, too.
func TestPieceErrors(t *testing.T) {
	bad := turned(-1)
	for k, p := range badPieces() {
		name := fmt.Sprint("bad piece ", k)
		for _, l := range [][]api.Point{nil, box()} {
			ok, e := glass.Fits(p, l, bad)
			wantError(t, name+" Fits", e, api.ErrPiece, !ok)
			list, e := glass.Settings(p, l)
			wantError(t, name+" Settings", e, api.ErrPiece, len(list) == 0)
		}
		for _, s := range []api.Setting{{}, bad} {
			checkSetErrors(t, name, p, s, api.ErrPiece)
			checkMergeErrors(t, name, p, example(), s, api.ErrPiece)
			checkMergeErrors(t, name, example(), p, s, api.ErrPiece)
		}
		for _, x := range [][2]api.Piece{{p, example()}, {example(), p}, {p, p}} {
			list, e := glass.Agree(x[0], x[1])
			wantError(t, name+" Agree", e, api.ErrPiece, len(list) == 0)
		}
	}
}

// TestSettingErrors gives settings that are not valid for the number of the piece's gauges, and lists that are no outlines.
func TestSettingErrors(t *testing.T) {
	for _, p := range pieces(t)[:20] {
		for _, s := range badSettings(len(p.Gauges)) {
			name := fmt.Sprint(s, " for ", len(p.Gauges))
			checkSetErrors(t, name, p, s, api.ErrArg)
			checkMergeErrors(t, name, p, p, s, api.ErrArg)
			for _, l := range outlines()[:3] {
				ok, e := glass.Fits(p, l, s)
				wantError(t, name+" Fits", e, api.ErrArg, !ok)
			}
		}
		for _, l := range badOutlines() {
			name := fmt.Sprint("bad outline ", l)
			for _, s := range []api.Setting{{}, turned(-1)} {
				ok, e := glass.Fits(p, l, s)
				wantError(t, name+" Fits", e, api.ErrArg, !ok)
			}
			list, e := glass.Settings(p, l)
			wantError(t, name+" Settings", e, api.ErrArg, len(list) == 0)
			g, e := glass.Gauges(l)
			wantError(t, name+" Gauges", e, api.ErrArg, len(g) == 0)
		}
	}
}

func checkSetErrors(t *testing.T, name string, p api.Piece, s api.Setting, want api.Errno) {
	t.Helper()
	q, e := glass.Reset(p, s)
	wantError(t, name+" Reset", e, want, samePiece(q, api.Piece{}))
	n, e := glass.Shows(p, s)
	wantError(t, name+" Shows", e, want, n == 0)
	l, e := glass.Marks(p, s)
	wantError(t, name+" Marks", e, want, len(l) == 0)
}

func checkMergeErrors(t *testing.T, name string, p, q api.Piece, s api.Setting, want api.Errno) {
	t.Helper()
	m, e := glass.Merge(p, q, s)
	wantError(t, name+" Merge", e, want, samePiece(m, api.Piece{}))
}

// TestMemory checks that no call changes its arguments, and that results share no memory with them.
func TestMemory(t *testing.T) {
	p, q, l := example(), example(), box()
	q.ID = 2
	gauges, list := slices.Clone(p.Gauges), slices.Clone(p.Marks)
	film := api.Film{ID: 1, Grey: []int{10, 200, 20}}
	for _, s := range []api.Setting{{}, turned(2), over(0), over(2)} {
		r, _ := glass.Reset(p, s)
		scribble(r.Gauges, api.Gauge{})
		scribble(r.Marks, api.Mark{})
		marks, _ := glass.Marks(p, s)
		scribble(marks, api.Mark{})
		glass.Fits(p, l, s)
	}
	m, e := glass.Merge(p, q, api.Setting{})
	if e != api.OK {
		t.Fatal("merge", e)
	}
	scribble(m.Gauges, api.Gauge{})
	scribble(m.Marks, api.Mark{})
	for _, by := range []int{0, 5} {
		w, _ := glass.Widen(gauges, by)
		scribble(w, api.Gauge{})
	}
	for edge := range 3 {
		on, _ := glass.On(list, edge)
		scribble(on, api.Mark{})
		glass.Count(list, edge, span(0, 16))
	}
	mirrored := []api.Mark{mark(3, 2, 2), mark(3, 12, 1)}
	one := []api.Mark{mark(0, 4, 1), mark(0, 14, 2)}
	if pairs, e := glass.RunOn(one, mirrored, 0); !slices.Equal(pairs, []int{1, 0}) || e != api.OK {
		t.Error("pairs", pairs, e)
	}
	colours := []int{1, 3}
	glass.Greys(film, colours)
	glass.Colours(film, span(0, 255))
	glass.Settings(p, l)
	glass.Agree(p, q)
	other := example()
	other.ID = 2
	switch {
	case !samePiece(p, example()) || !samePiece(q, other) || !slices.Equal(l, box()):
		t.Error("changed", p, q, l)
	case !slices.Equal(gauges, p.Gauges) || !slices.Equal(list, p.Marks) || !slices.Equal(film.Grey, []int{10, 200, 20}) || !slices.Equal(colours, []int{1, 3}):
		t.Error("changed", gauges, list, film, colours)
	case !slices.Equal(one, []api.Mark{mark(0, 4, 1), mark(0, 14, 2)}) || !slices.Equal(mirrored, []api.Mark{mark(3, 2, 2), mark(3, 12, 1)}):
		t.Error("changed", one, mirrored)
	}
}

// scribble writes x over a list and the memory behind it.
func scribble[T any](l []T, x T) {
	l = l[:cap(l)]
	for k := range l {
		l[k] = x
	}
}

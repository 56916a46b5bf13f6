package glass_test

import (
	"math"
	"math/rand"
	"slices"
	"testing"

	"leadlight/api"
	"leadlight/glass"
)

// film is the film of the chapter's examples.
func film() api.Film { return api.Film{ID: 1, Grey: []int{10, 200, 20}} }

// badFilms are films that are not valid, each for one reason.
func badFilms() []api.Film {
	out := []api.Film{{}, {ID: 1}, {ID: 1, Grey: make([]int, 17)}, {ID: 1, Grey: make([]int, 1000)}}
	for _, id := range append(extremes(), 0, -1, 65536) {
		out = append(out, api.Film{ID: id, Grey: []int{10}})
	}
	for _, grey := range append(extremes(), -1, 256) {
		out = append(out, api.Film{ID: 1, Grey: []int{grey}}, api.Film{ID: 1, Grey: []int{10, 20, grey}})
	}
	return out
}

func TestValidFilm(t *testing.T) {
	for _, f := range []api.Film{film(), {ID: 65535, Grey: []int{0, 255}}, {ID: 1, Grey: []int{0}}, {ID: 1, Grey: make([]int, 16)}} {
		if !glass.ValidFilm(f) {
			t.Error("valid", f)
		}
	}
	for _, f := range badFilms() {
		if glass.ValidFilm(f) {
			t.Error("not valid", f)
		}
		// ErrFilm comes first, also if the other arguments are not valid.
		for _, colour := range []int{1, 0, 17} {
			n, e := glass.Grey(f, colour)
			wantError(t, "Grey", e, api.ErrFilm, n == 0)
		}
		l, e := glass.Colours(f, span(0, 255))
		wantError(t, "Colours", e, api.ErrFilm, len(l) == 0)
		for _, colours := range [][]int{nil, {1}, {0}, {2, 1}} {
			s, e := glass.Greys(f, colours)
			wantError(t, "Greys", e, api.ErrFilm, s == api.Span{})
		}
	}
}

func TestGrey(t *testing.T) {
	for k, want := range film().Grey {
		if n, e := glass.Grey(film(), k+1); n != want || e != api.OK {
			t.Error(k+1, n, e)
		}
	}
	if n, e := glass.Grey(api.Film{ID: 1, Grey: []int{0}}, 1); n != 0 || e != api.OK {
		t.Error("black", n, e)
	}
	whole := api.Film{ID: 1, Grey: slices.Repeat([]int{255}, 16)}
	if n, e := glass.Grey(whole, 16); n != 255 || e != api.OK {
		t.Error("last", n, e)
	}
	for _, colour := range []int{4, 5, 16} {
		n, e := glass.Grey(film(), colour)
		wantError(t, "no grey", e, api.ErrNone, n == 0)
	}
	for _, colour := range append(extremes(), 0, -1, 17) {
		n, e := glass.Grey(film(), colour)
		wantError(t, "no colour", e, api.ErrArg, n == 0)
	}
}

func TestColours(t *testing.T) {
	for s, want := range map[api.Span][]int{
		span(0, 30): {1, 3}, span(10, 20): {1, 3}, span(10, 10): {1}, span(11, 19): nil, span(200, 255): {2}, span(0, 255): {1, 2, 3}, span(0, 9): nil, span(201, 255): nil,
		span(-5, 500): {1, 2, 3}, span(math.MinInt, math.MaxInt): {1, 2, 3}, span(-9, -1): nil, span(30, 0): nil, span(1, 0): nil, span(math.MaxInt, math.MinInt): nil, span(20, 10): nil,
	} {
		if l, e := glass.Colours(film(), s); !slices.Equal(l, want) || e != api.OK {
			t.Error(s, l, e)
		}
	}
}

func TestGreys(t *testing.T) {
	for _, x := range []struct {
		colours []int
		want    api.Span
		e       api.Errno
	}{
		{[]int{1, 3}, span(10, 20), api.OK}, {[]int{1}, only(10), api.OK}, {[]int{2}, only(200), api.OK}, {[]int{2, 3}, span(20, 200), api.OK}, {[]int{1, 2, 3}, span(10, 200), api.OK},
		{nil, span(1, 0), api.OK}, {[]int{}, span(1, 0), api.OK},
		{[]int{4}, api.Span{}, api.ErrNone}, {[]int{1, 4}, api.Span{}, api.ErrNone}, {[]int{2, 4, 16}, api.Span{}, api.ErrNone}, {[]int{16}, api.Span{}, api.ErrNone},
		{[]int{0}, api.Span{}, api.ErrArg}, {[]int{0, 1}, api.Span{}, api.ErrArg}, {[]int{1, 17}, api.Span{}, api.ErrArg}, {[]int{17}, api.Span{}, api.ErrArg},
		{[]int{1, 1}, api.Span{}, api.ErrArg}, {[]int{3, 1}, api.Span{}, api.ErrArg}, {[]int{1, 3, 2}, api.Span{}, api.ErrArg}, {[]int{5, 4}, api.Span{}, api.ErrArg},
		{[]int{math.MinInt}, api.Span{}, api.ErrArg}, {[]int{1, math.MaxInt}, api.Span{}, api.ErrArg}, {make([]int, 1000), api.Span{}, api.ErrArg},
	} {
		if s, e := glass.Greys(film(), x.colours); s != x.want || e != x.e {
			t.Error(x.colours, s, e)
		}
	}
}

// TestFilms is P3.7.
func TestFilms(t *testing.T) {
	r := rand.New(rand.NewSource(37))
	for range 400 {
		f := api.Film{ID: 1 + r.Intn(65535)}
		for range 1 + r.Intn(16) {
			f.Grey = append(f.Grey, r.Intn(1<<(1+r.Intn(8))))
		}
		for range 30 {
			var colours []int
			for k := range f.Grey {
				if r.Intn(4) == 0 {
					colours = append(colours, k+1)
				}
			}
			s := span(r.Intn(260)-2, r.Intn(260)-2)
			if len(colours) > 0 && r.Intn(2) == 0 {
				// Spans that just contain the greys, or just do not.
				s = span(f.Grey[colours[0]-1]-r.Intn(20), f.Grey[colours[0]-1]+r.Intn(20))
			}
			checkAdjoint(t, f, colours, s)
		}
	}
}

func checkAdjoint(t *testing.T, f api.Film, colours []int, s api.Span) {
	t.Helper()
	greys, e1 := glass.Greys(f, colours)
	inSpan, e2 := glass.Colours(f, s)
	if e1 != api.OK || e2 != api.OK {
		t.Fatal(f, colours, s, e1, e2)
	}
	contained := greys.Lo > greys.Hi || s.Lo <= greys.Lo && greys.Hi <= s.Hi
	all := true
	for _, c := range colours {
		all = all && slices.Contains(inSpan, c)
	}
	if contained != all {
		t.Fatal("not adjoint", f, colours, s, greys, inSpan)
	}
	for k, grey := range f.Grey {
		if slices.Contains(inSpan, k+1) != in(grey, s) {
			t.Fatal("colours", f, s, inSpan)
		}
	}
	for _, c := range colours {
		if n, e := glass.Grey(f, c); !in(n, greys) || e != api.OK {
			t.Fatal("greys", f, colours, greys)
		}
	}
}

package glass_test

import (
	"math"
	"math/rand"
	"slices"
	"testing"

	"leadlight/api"
	"leadlight/glass"
)

func TestOnAndCount(t *testing.T) {
	l := []api.Mark{mark(0, 4, 1), mark(1, 0, 3), mark(1, 9, 1), mark(1, 9, 2), mark(1, 16, 2), mark(23, 5, 16)}
	for edge, want := range map[int][]api.Mark{0: l[:1], 1: l[1:5], 2: nil, 22: nil, 23: l[5:]} {
		if got, e := glass.On(l, edge); !slices.Equal(got, want) || e != api.OK {
			t.Error(edge, got, e)
		}
	}
	for _, x := range []struct {
		edge int
		at   api.Span
		want int
	}{
		{1, span(0, 16), 4}, {1, span(1, 16), 3}, {1, span(0, 15), 3}, {1, span(9, 9), 2}, {1, span(10, 15), 0}, {1, span(16, 0), 0}, {1, span(10, 8), 0},
		{1, span(math.MinInt, math.MaxInt), 4}, {1, span(math.MaxInt, math.MinInt), 0}, {1, span(-5, 0), 1}, {1, span(16, 99), 1}, {0, span(4, 4), 1}, {0, span(5, 9), 0}, {2, span(0, 16), 0}, {23, span(5, 5), 1},
	} {
		if n, e := glass.Count(l, x.edge, x.at); n != x.want || e != api.OK {
			t.Error(x, n, e)
		}
	}
	for _, l := range [][]api.Mark{nil, manyMarks(7, 32)} {
		if got, e := glass.On(l, 7); !slices.Equal(got, l) || e != api.OK {
			t.Error(got, e)
		}
	}
}

// TestOnAll compares with the rules, and checks that the edges have all marks together.
func TestOnAll(t *testing.T) {
	r := rand.New(rand.NewSource(9))
	for range 300 {
		l := throwMarks(r, 1+r.Intn(24), 32)
		var together []api.Mark
		for edge := range 24 {
			on, e := glass.On(l, edge)
			together = append(together, on...)
			s := span(r.Intn(19)-1, r.Intn(19)-1)
			want := 0
			for _, m := range l {
				if m.Edge == edge && in(m.At, s) {
					want++
				}
			}
			if n, e2 := glass.Count(l, edge, s); n != want || e != api.OK || e2 != api.OK {
				t.Fatal(l, edge, s, n, e, e2)
			}
		}
		if !slices.Equal(together, l) {
			t.Fatal(l, together)
		}
	}
}

func TestOnErrors(t *testing.T) {
	check := func(l []api.Mark, edge int) {
		t.Helper()
		on, e := glass.On(l, edge)
		wantError(t, "On", e, api.ErrArg, len(on) == 0)
		n, e := glass.Count(l, edge, span(0, 16))
		wantError(t, "Count", e, api.ErrArg, n == 0)
	}
	for _, edge := range append(extremes(), -1, 24) {
		check(example().Marks, edge)
		check([]api.Mark{mark(edge, 4, 1)}, 0)
		check([]api.Mark{mark(edge, 4, 1)}, edge)
	}
	for _, l := range append(badMarks(), []api.Mark{mark(1, 4, 1), mark(0, 5, 2)}) {
		check(l, 0)
	}
}

func TestRunOn(t *testing.T) {
	all := func(edge int) []api.Mark {
		var out []api.Mark
		for k := range 17 {
			out = append(out, mark(edge, k, 1))
		}
		return out
	}
	up, down := make([]int, 17), make([]int, 17)
	for k := range up {
		up[k], down[k] = k, 16-k
	}
	for name, x := range map[string]struct {
		a, b  []api.Mark
		slack int
		want  []int
		e     api.Errno
	}{
		"example":         {[]api.Mark{mark(0, 4, 1)}, []api.Mark{mark(3, 11, 1)}, 1, []int{0}, api.OK},
		"too far":         {[]api.Mark{mark(0, 4, 1)}, []api.Mark{mark(3, 10, 1)}, 1, nil, api.ErrMarks},
		"beyond":          {[]api.Mark{mark(0, 4, 1)}, []api.Mark{mark(3, 13, 1)}, 1, []int{0}, api.OK},
		"too far beyond":  {[]api.Mark{mark(0, 4, 1)}, []api.Mark{mark(3, 14, 1)}, 1, nil, api.ErrMarks},
		"no slack":        {[]api.Mark{mark(0, 4, 1)}, []api.Mark{mark(3, 12, 1)}, 0, []int{0}, api.OK},
		"both ends":       {[]api.Mark{mark(0, 0, 1)}, []api.Mark{mark(3, 0, 1)}, 16, []int{0}, api.OK},
		"both far ends":   {[]api.Mark{mark(0, 16, 1)}, []api.Mark{mark(3, 16, 1)}, 15, nil, api.ErrMarks},
		"other tone":      {[]api.Mark{mark(0, 4, 1)}, []api.Mark{mark(3, 12, 2)}, 16, nil, api.ErrMarks},
		"nothing":         {nil, nil, 0, nil, api.OK},
		"nothing on b":    {[]api.Mark{mark(0, 4, 1)}, nil, 16, nil, api.ErrMarks},
		"nothing on a":    {nil, []api.Mark{mark(0, 4, 1)}, 16, nil, api.ErrMarks},
		"more on a":       {[]api.Mark{mark(0, 4, 1), mark(0, 5, 1)}, []api.Mark{mark(3, 12, 1)}, 16, nil, api.ErrMarks},
		"more on b":       {[]api.Mark{mark(0, 4, 1)}, []api.Mark{mark(3, 11, 1), mark(3, 12, 1)}, 16, nil, api.ErrMarks},
		"any edges":       {[]api.Mark{mark(math.MinInt, 4, 1), mark(math.MinInt, 4, 2)}, []api.Mark{mark(math.MaxInt, 12, 1), mark(math.MaxInt, 12, 2)}, 0, []int{0, 1}, api.OK},
		"one edge":        {[]api.Mark{mark(2, 4, 1)}, []api.Mark{mark(2, 12, 1)}, 0, []int{0}, api.OK},
		"first list":      {[]api.Mark{mark(0, 4, 1), mark(0, 6, 1)}, []api.Mark{mark(3, 10, 1), mark(3, 12, 1)}, 2, []int{0, 1}, api.OK},
		"only one":        {[]api.Mark{mark(0, 4, 1), mark(0, 6, 1)}, []api.Mark{mark(3, 10, 1), mark(3, 12, 1)}, 1, []int{1, 0}, api.OK},
		"not the nearest": {[]api.Mark{mark(0, 4, 1), mark(0, 8, 1)}, []api.Mark{mark(3, 8, 1), mark(3, 10, 1)}, 4, []int{0, 1}, api.OK},
		"first for later": {[]api.Mark{mark(0, 6, 1), mark(0, 8, 1)}, []api.Mark{mark(3, 8, 1), mark(3, 11, 1)}, 2, []int{1, 0}, api.OK},
		"tones between":   {[]api.Mark{mark(0, 4, 1), mark(0, 4, 2), mark(0, 5, 1)}, []api.Mark{mark(3, 11, 1), mark(3, 12, 1), mark(3, 13, 2)}, 1, []int{0, 2, 1}, api.OK},
		"all, no slack":   {all(0), all(1), 0, down, api.OK},
		"all, any slack":  {all(0), all(1), 16, up, api.OK},
		"one in the way":  {all(0)[:16], append(all(1)[:15], mark(1, 16, 2)), 16, nil, api.ErrMarks},
	} {
		if l, e := glass.RunOn(x.a, x.b, x.slack); e != x.e || !slices.Equal(l, x.want) {
			t.Error(name, l, e)
		}
	}
}

// TestRunOnMost has as many marks as an edge can have, with a list that takes long to find by trying all others.
func TestRunOnMost(t *testing.T) {
	var a, b []api.Mark
	for k := range 32 {
		a = append(a, mark(0, k/2, 1+k%2))
		b = append(b, mark(0, 1+k/2, 1+k%2))
	}
	for slack := 0; slack <= 16; slack++ {
		l, e := glass.RunOn(a, b, slack)
		if !slices.Equal(l, firstAhead(a, b, slack)) || e != api.OK {
			t.Error(slack, l, e)
		}
		// The last mark runs on into none.
		c := append(slices.Clone(b[:31]), mark(0, 16, 3))
		l, e = glass.RunOn(a, c, slack)
		wantError(t, "none", e, api.ErrMarks, len(l) == 0)
	}
	// Each mark but the last ones can run on into many, but only if they spare the one that the last ones need.
	for _, slack := range []int{8, 10, 12} {
		var a, b []api.Mark
		for k := range 16 {
			a, b = append(a, mark(0, k, 1)), append(b, mark(0, k, 1))
		}
		a[15].At = 16
		l, e := glass.RunOn(a, b, slack)
		if !slices.Equal(l, firstAhead(a, b, slack)) || e != api.OK {
			t.Error(slack, l, e)
		}
	}
}

// runsOn reports whether two marks run on into one another.
func runsOn(m, o api.Mark, slack int) bool {
	d := m.At + o.At - 16
	return m.Tone == o.Tone && -slack <= d && d <= slack
}

// firstAhead returns the first pairing, by a matching of what is left for each choice.
func firstAhead(a, b []api.Mark, slack int) []int {
	taken := make([]bool, len(b))
	var out []int
	for i := range a {
		for k := range b {
			if taken[k] || !runsOn(a[i], b[k], slack) {
				continue
			}
			taken[k] = true
			if matching(a[i+1:], b, slices.Clone(taken), slack) {
				out = append(out, k)
				break
			}
			taken[k] = false
		}
	}
	return out
}

// matching reports whether each of the marks of a can be paired with another one of b that is not taken.
func matching(a, b []api.Mark, taken []bool, slack int) bool {
	holder := make([]int, len(b))
	for k := range holder {
		holder[k] = -1
	}
	for i := range a {
		tried := slices.Clone(taken)
		var place func(i int) bool
		place = func(i int) bool {
			for k := range b {
				if tried[k] || !runsOn(a[i], b[k], slack) {
					continue
				}
				tried[k] = true
				if holder[k] < 0 || place(holder[k]) {
					holder[k] = i
					return true
				}
			}
			return false
		}
		if !place(i) {
			return false
		}
	}
	return true
}

// firstByRule returns the first pairing of short lists, by trying all of them in order.
func firstByRule(a, b []api.Mark, slack int) ([]int, bool) {
	if len(a) != len(b) {
		return nil, false
	}
	var out []int
	var try func() bool
	try = func() bool {
		i := len(out)
		if i == len(a) {
			return true
		}
		for k := range b {
			if slices.Contains(out, k) || !runsOn(a[i], b[k], slack) {
				continue
			}
			out = append(out, k)
			if try() {
				return true
			}
			out = out[:i]
		}
		return false
	}
	found := try()
	return out, found
}

// throwSides returns marks on both sides of a lead, which often run on.
func throwSides(r *rand.Rand) (a, b []api.Mark) {
	a = throwMarks(r, 1, 7)
	for _, m := range a {
		m.At = min(16, max(0, 16-m.At+r.Intn(7)-3))
		b = append(b, m)
	}
	slices.SortFunc(b, byRule)
	b = slices.Compact(b)
	if r.Intn(5) == 0 {
		b = throwMarks(r, 1, 7)
	}
	for k := range b {
		b[k].Edge = 5
	}
	return a, b
}

// TestRunOnAll compares with the rule, and is P3.6.
func TestRunOnAll(t *testing.T) {
	r := rand.New(rand.NewSource(36))
	found := 0
	for range 3000 {
		a, b := throwSides(r)
		before := false
		for slack := 0; slack <= 16; slack++ {
			want, ok := firstByRule(a, b, slack)
			l, e := glass.RunOn(a, b, slack)
			if !slices.Equal(l, want) || ok != (e == api.OK) || !ok && e != api.ErrMarks {
				t.Fatal(a, b, slack, l, want, e)
			}
			checkOnce(t, a, b, l, e)
			if _, e := glass.RunOn(b, a, slack); ok != (e == api.OK) {
				t.Fatal("order", a, b, slack, e)
			}
			if before && !ok {
				t.Fatal("greater slack", a, b, slack)
			}
			before = ok
			if ok && len(a) > 2 {
				found++
			}
		}
	}
	if found < 3000 {
		t.Error("few pairings:", found)
	}
}

// checkOnce checks that a pairing has each mark of both lists once.
func checkOnce(t *testing.T, a, b []api.Mark, l []int, e api.Errno) {
	t.Helper()
	sides := slices.Sorted(slices.Values(l))
	for k, i := range sides {
		if i != k {
			t.Fatal("not once", a, b, l)
		}
	}
	if e == api.OK && (len(l) != len(a) || len(l) != len(b)) {
		t.Fatal("not each", a, b, l)
	}
}

func TestRunOnErrors(t *testing.T) {
	good := []api.Mark{mark(0, 4, 1)}
	check := func(a, b []api.Mark, slack int) {
		t.Helper()
		l, e := glass.RunOn(a, b, slack)
		wantError(t, "RunOn", e, api.ErrArg, len(l) == 0)
	}
	for _, slack := range append(extremes(), -1, 17) {
		check(good, good, slack)
		check(nil, nil, slack)
	}
	for _, bad := range append(badMarks(), []api.Mark{mark(0, 4, 1), mark(1, 5, 1)}, []api.Mark{mark(1, 4, 1), mark(0, 5, 1)}) {
		check(bad, good, 16)
		check(good, bad, 16)
		check(bad, nil, 16)
		check(bad, bad, 16)
	}
}

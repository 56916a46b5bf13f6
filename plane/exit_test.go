package plane_test

import (
	"math"
	"slices"
	"testing"

	"leadlight/api"
	"leadlight/plane"
)

func TestExit(t *testing.T) {
	for name, x := range map[string]struct {
		l     []api.Point
		d     api.Point
		block []int
	}{
		"none":              {nil, at(1, 0), nil},
		"corner":            {pts(0, -1, 1, 0), at(-1, 0), nil},
		"channel":           {pts(1, 0, -1, 0, 0, 1), at(0, -1), nil},
		"open channel":      {pts(1, 0, -1, 0), at(0, 1), nil},
		"one":               {pts(0, 5), at(-1, 0), nil},
		"divided":           {pts(6, 4), at(-2, 3), nil},
		"divided, negative": {pts(-6, -9), at(3, -2), nil},
		"right of the one":  {pts(2, 0, 0, 4), at(0, -1), nil},
		"of the second":     {pts(1, 1, -1, 1, 0, 1), at(1, -1), nil},
		"far":               {pts(4096, 4095), at(-4095, 4096), nil},
		"narrow":            {pts(4096, 4095, -4095, -4094), at(4095, -4096), nil},
		"narrow, negative":  {pts(-4096, -4095, 4095, 4094), at(-4095, 4096), nil},
		"three":             {pts(1, 0, -1, 1, -1, -1), at(0, 0), []int{0, 1, 2}},
		"four":              {pts(1, 0, -1, 0, 0, 1, 0, -1), at(0, 0), []int{0, 1, 2, 3}},
		"three of five":     {pts(1, 0, 0, 1, -1, 0, 0, -1, -1, -1), at(0, 0), []int{0, 1, 4}},
		"three before four": {pts(1, 0, -1, 0, 0, 1, 0, -1, 1, 2, -1, 2), at(0, 0), []int{0, 3, 5}},
		"repeated":          {pts(1, 0, 1, 0, -1, 0, 0, 1, 0, 1, 0, -1), at(0, 0), []int{0, 2, 3, 5}},
		"first of several":  {pts(-1, -1, 1, 0, 2, 0, 0, 1, -1, -1), at(0, 0), []int{0, 1, 3}},
	} {
		d, block, e := plane.Exit(x.l)
		want := api.OK
		if len(x.block) > 0 {
			want = api.ErrBlocked
		}
		if d != x.d || !slices.Equal(block, x.block) || e != want {
			t.Error(name, d, block, e)
		}
	}
}

func TestExitArg(t *testing.T) {
	bad := pts(0, 0, 4097, 0, 0, 4097, -4097, 0, 0, -4097, math.MaxInt, 1, 1, math.MaxInt, math.MinInt, 1, 1, math.MinInt)
	for _, n := range bad {
		for _, l := range [][]api.Point{{n}, {at(1, 0), n}, append(pts(1, 0, -1, 1, -1, -1), n), {n, at(0, 1)}} {
			if d, block, e := plane.Exit(l); d != at(0, 0) || len(block) > 0 || e != api.ErrArg {
				t.Error(l, d, block, e)
			}
		}
	}
	for _, n := range pts(4096, 0, 0, 4096, -4096, 0, 0, -4096, 4096, -4096) {
		if _, _, e := plane.Exit([]api.Point{n}); e != api.OK {
			t.Error("valid", n, e)
		}
	}
}

func TestExitMany(t *testing.T) {
	var l []api.Point
	for k := range 24 {
		l = append(l, at(4000-k, 1+k))
	}
	if d, block, e := plane.Exit(l); d != at(1, -4000) || len(block) > 0 || e != api.OK {
		t.Error("24", d, block, e)
	}
	if d, block, e := plane.Exit(append(slices.Clone(l), at(1, 1))); d != at(0, 0) || len(block) > 0 || e != api.ErrArg {
		t.Error("25", d, block, e)
	}
	l[20], l[22], l[23] = at(-1, 0), at(-1, -1), at(0, -1)
	if d, block, e := plane.Exit(l); d != at(0, 0) || !slices.Equal(block, []int{0, 20, 22}) || e != api.ErrBlocked {
		t.Error("blocked", d, block, e)
	}
	l = slices.Repeat(pts(1, 0), 24)
	l[21], l[22], l[23] = at(-1, 0), at(0, -1), at(0, 1)
	if d, block, e := plane.Exit(l); d != at(0, 0) || !slices.Equal(block, []int{0, 21, 22, 23}) || e != api.ErrBlocked {
		t.Error("four of 24", d, block, e)
	}
}

// TestExitAll compares with the rule, word by word, and is P1.8.
func TestExitAll(t *testing.T) {
	var near, far []api.Point
	for _, p := range grid(5) {
		if p = at(p.X-2, p.Y-2); p == at(0, 0) {
			continue
		}
		far = append(far, p)
		if abs(p.X) < 2 && abs(p.Y) < 2 {
			near = append(near, p)
		}
	}
	for n := range 6 {
		for _, l := range lists(near, n) {
			checkExit(t, l)
		}
	}
	for _, l := range lists(far, 3) {
		checkExit(t, l)
	}
	var d dice = 9
	for range 3000 {
		var l []api.Point
		for range 4 + d.roll(6) {
			l = append(l, far[d.roll(len(far))])
		}
		checkExit(t, l)
	}
}

func checkExit(t *testing.T, l []api.Point) {
	t.Helper()
	want := firstFree(l)
	d, block, e := plane.Exit(l)
	if anyFree(l) {
		if d != want || d == at(0, 0) || !free(d, l) || len(block) > 0 || e != api.OK {
			t.Fatal("free", l, d, want, block, e)
		}
		for k := range l { // with fewer normals it stays free
			if _, _, e := plane.Exit(slices.Delete(slices.Clone(l), k, k+1)); e != api.OK {
				t.Fatal("fewer", l, k, e)
			}
		}
		return
	}
	if d != at(0, 0) || e != api.ErrBlocked || len(block) > 4 || !slices.Equal(block, firstBlock(l)) {
		t.Fatal("blocked", l, d, block, e)
	}
}

// free reports whether a direction is free of normals.
func free(d api.Point, l []api.Point) bool {
	for _, n := range l {
		if d.X*n.X+d.Y*n.Y > 0 {
			return false
		}
	}
	return true
}

// anyFree tries all directions of a small grid; normals with coordinates up to 2 have a free one among these, or none.
func anyFree(l []api.Point) bool {
	for _, p := range grid(7) {
		if d := at(p.X-3, p.Y-3); d != at(0, 0) && free(d, l) {
			return true
		}
	}
	return false
}

// firstFree is the first of the rule's directions that is free, or (0, 0).
func firstFree(l []api.Point) api.Point {
	if len(l) == 0 {
		return at(1, 0)
	}
	for _, n := range l {
		by := max(abs(n.X), abs(n.Y))
		for n.X%by != 0 || n.Y%by != 0 {
			by--
		}
		for _, d := range pts(-n.Y/by, n.X/by, n.Y/by, -n.X/by) {
			if free(d, l) {
				return d
			}
		}
	}
	return at(0, 0)
}

// firstBlock looks at all choices of indices, and returns the first of the shortest ones of which no direction is free.
func firstBlock(l []api.Point) []int {
	var best []int
	for set := 1; set < 1<<len(l); set++ {
		var list []int
		var some []api.Point
		for k, n := range l {
			if set>>k&1 == 1 {
				list, some = append(list, k), append(some, n)
			}
		}
		if len(list) > 4 || best != nil && (len(list) > len(best) || len(list) == len(best) && slices.Compare(list, best) > 0) {
			continue
		}
		if !anyFree(some) {
			best = list
		}
	}
	return best
}

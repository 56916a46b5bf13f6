package cutting_test

import (
	"math/rand"
	"slices"
	"testing"

	"leadlight/api"
	"leadlight/cutting"
)

// chamber says anew, word by word, whether rectangles have room for wants with a grain, and remembers it. Sets of wants are numbers of bits.
type chamber struct {
	wants []api.Want
	grain int
	known map[[3]int]bool
}

func chamberOf(l []api.Want, grain int) chamber { return chamber{l, grain, map[[3]int]bool{}} }

func (c chamber) all() int { return 1<<len(c.wants) - 1 }

// room reports whether a rectangle of w by h has room for a set of wants.
func (c chamber) room(set, w, h int) bool {
	key := [3]int{set, w, h}
	has, ok := c.known[key]
	if !ok {
		has = c.look(set, w, h)
		c.known[key] = has
	}
	return has
}

func (c chamber) look(set, w, h int) bool {
	if set == 0 {
		return true
	}
	for k, want := range c.wants {
		if set == 1<<k {
			return slices.ContainsFunc(turns(want, c.grain), func(turn int) bool {
				s := sizeOf(want, turn)
				return s.W <= w && s.H <= h
			})
		}
	}
	for some := 1; some < set; some++ {
		if some&set != some {
			continue
		}
		for x := 1; x < w; x++ {
			if c.room(some, x, h) && c.room(set-some, w-x, h) {
				return true
			}
		}
		for y := 1; y < h; y++ {
			if c.room(some, w, y) && c.room(set-some, w, h-y) {
				return true
			}
		}
	}
	return false
}

// sizes returns the least sizes with room for all wants, of those up to side by side.
func (c chamber) sizes(side int) []api.Size {
	var out []api.Size
	for w := range side + 1 {
		for h := range side + 1 {
			if c.room(c.all(), w, h) && !(w > 0 && c.room(c.all(), w-1, h)) && !(h > 0 && c.room(c.all(), w, h-1)) {
				out = append(out, api.Size{W: w, H: h})
			}
		}
	}
	return out
}

// TestSizes compares E5 and E6 with the definition, and is P5.2.
func TestSizes(t *testing.T) {
	d := rand.New(rand.NewSource(4))
	several := 0
	for k := range 150 {
		n := 1 + k%3
		if k%30 == 0 {
			n = 4
		}
		s := thrownScene(d, n, 4, 4, 14, 2)
		for grain := range 3 {
			c := chamberOf(s.wants, grain)
			want := c.sizes(4*len(s.wants) + 1)
			got, e := cutting.Sizes(s.wants, grain)
			if !slices.Equal(got, want) || e != api.OK {
				t.Error("Sizes", s.wants, grain, got, want, e)
			}
			if len(got) > 3 {
				several++
			}
			checkSizes(t, c, s, got)
		}
	}
	if several < 30 {
		t.Error("few with several sizes", several)
	}
}

// checkSizes is the part of TestSizes for the promise.
func checkSizes(t *testing.T, c chamber, s scene, sizes []api.Size) {
	t.Helper()
	for _, sheet := range s.sheets {
		sheet.Grain = c.grain
		within := slices.ContainsFunc(sizes, func(z api.Size) bool { return z.W <= sheet.W && z.H <= sheet.H })
		got, e := cutting.FitsIn(s.wants, sheet)
		if got != within || got != c.room(c.all(), sheet.W, sheet.H) || e != api.OK {
			t.Error("FitsIn", s.wants, sheet, got, e)
		}
		for k := range s.wants {
			fewer := slices.Delete(slices.Clone(s.wants), k, k+1)
			wide, high := sheet, sheet
			wide.W++
			high.H++
			some, _ := cutting.FitsIn(fewer, sheet)
			more, _ := cutting.FitsIn(s.wants, wide)
			most, _ := cutting.FitsIn(s.wants, high)
			if got && !(some && more && most) {
				t.Error("fewer wants, or more room", s.wants, sheet)
			}
		}
	}
	if c.grain != 0 {
		return
	}
	turned := slices.Clone(sizes)
	slices.Reverse(turned)
	for k, z := range turned {
		turned[k] = api.Size{W: z.H, H: z.W}
	}
	if !slices.Equal(turned, sizes) {
		t.Error("exchanged", s.wants, sizes)
	}
}

func TestSizesExamples(t *testing.T) {
	l := example()
	one := api.Want{ID: 2, Colour: 1, Grain: 1, Outline: l[1].Outline}
	for name, x := range map[string]struct {
		l     []api.Want
		grain int
		want  []api.Size
	}{
		"x":         {l[1:], 0, []api.Size{{W: 2, H: 6}, {W: 6, H: 2}}},
		"grain 1":   {[]api.Want{one}, 1, []api.Size{{W: 6, H: 2}}},
		"grain 2":   {[]api.Want{one}, 2, []api.Size{{W: 2, H: 6}}},
		"sheet's":   {l[1:], 2, []api.Size{{W: 2, H: 6}, {W: 6, H: 2}}},
		"want's":    {[]api.Want{one}, 0, []api.Size{{W: 2, H: 6}, {W: 6, H: 2}}},
		"both":      {l, 0, []api.Size{{W: 4, H: 14}, {W: 6, H: 8}, {W: 8, H: 6}, {W: 14, H: 4}}},
		"no wants":  {nil, 0, []api.Size{{}}},
		"no wants2": {nil, 2, []api.Size{{}}},
		"square":    {wantsOf(boxed(3, 3)), 0, []api.Size{{W: 3, H: 3}}},
		"great":     {wantsOf(boxed(4096, 4096), boxed(4096, 4096), boxed(4096, 4096)), 0, []api.Size{{W: 4096, H: 12288}, {W: 8192, H: 8192}, {W: 12288, H: 4096}}},
	} {
		if s, e := cutting.Sizes(x.l, x.grain); !slices.Equal(s, x.want) || e != api.OK {
			t.Error(name, s, e)
		}
	}
	// Two wants of 3 by 4 (DOC.md, example 5).
	two := wantsOf(boxed(3, 4), boxed(3, 4))
	for w, want := range map[int]bool{6: true, 5: false} {
		if ok, e := cutting.FitsIn(two, sheetOf(1, w, 4)); ok != want || e != api.OK {
			t.Error("two wants", w, ok, e)
		}
	}
	// Colours play no part.
	two[1].Colour = 3
	if ok, e := cutting.FitsIn(two, sheetOf(1, 6, 4)); !ok || e != api.OK {
		t.Error("colours", ok, e)
	}
	if ok, e := cutting.FitsIn(nil, sheetOf(1, 1, 1)); !ok || e != api.OK {
		t.Error("no wants", ok, e)
	}
}

// TestGuillotine has four boxes around a fifth one, which fill a square, but not by cuts from side to side.
func TestGuillotine(t *testing.T) {
	l := wantsOf(boxed(3, 2), boxed(2, 3), boxed(3, 2), boxed(2, 3), boxed(1, 1))
	if ok, e := cutting.FitsIn(l, sheetOf(1, 5, 5)); ok || e != api.OK {
		t.Error("pinwheel", ok, e)
	}
	if ok, e := cutting.FitsIn(l, sheetOf(1, 6, 5)); !ok || e != api.OK {
		t.Error("with more room", ok, e)
	}
}

// TestSevenWants has as many wants as there may be: seven of 1 by 1 fill each rectangle of seven or more in a row, and 2 by 4.
func TestSevenWants(t *testing.T) {
	var outlines [][]api.Point
	for range 7 {
		outlines = append(outlines, boxed(1, 1))
	}
	s, e := cutting.Sizes(wantsOf(outlines...), 1)
	if !slices.Equal(s, []api.Size{{W: 1, H: 7}, {W: 2, H: 4}, {W: 3, H: 3}, {W: 4, H: 2}, {W: 7, H: 1}}) || e != api.OK {
		t.Error(s, e)
	}
	var uneven [][]api.Point
	for k := range 7 {
		uneven = append(uneven, boxed(501+97*k, 1203+231*k*k%1000))
	}
	s, e = cutting.Sizes(wantsOf(uneven...), 0)
	if e != api.OK || len(s) < 20 {
		t.Fatal(len(s), e)
	}
	for k := range s {
		if k > 0 && (s[k].W <= s[k-1].W || s[k].H >= s[k-1].H) || s[k].W != s[len(s)-1-k].H {
			t.Error(s)
		}
	}
}

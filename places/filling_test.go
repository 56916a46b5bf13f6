package places_test

import (
	"slices"
	"testing"

	"leadlight/api"
	"leadlight/places"
)

// TestFillingExamples are the chapter's examples of fillings (G3 to G6).
func TestFillingExamples(t *testing.T) {
	p := example()
	for _, x := range []struct {
		f        []int
		sound    bool
		breaks   []int
		violates []int
	}{
		{[]int{0, 1}, true, nil, nil},
		{[]int{1, 0}, true, []int{1}, []int{4}},
		{[]int{2, 2}, true, []int{0}, []int{3}},
		{[]int{0, 0}, false, nil, nil},
		{[]int{1, 1}, false, nil, nil},
		{[]int{2, 0}, true, []int{0}, []int{3}},
	} {
		sound, e1 := places.Sound(p, x.f)
		breaks, e2 := places.Breaks(p, x.f)
		violates, e3 := places.Violates(p, x.f)
		agrees, e4 := places.Agrees(p, x.f)
		if sound != x.sound || !slices.Equal(breaks, x.breaks) || !slices.Equal(violates, x.violates) || agrees != (sound && len(x.violates) == 0) {
			t.Error(x, sound, breaks, violates, agrees)
		}
		if e1 != api.OK || e2 != api.OK || e3 != api.OK || e4 != api.OK {
			t.Error(x, e1, e2, e3, e4)
		}
	}
}

// TestItemOnce checks that an item of which several rules are broken is told once, and a rule each time (G4, G5).
func TestItemOnce(t *testing.T) {
	none := func(item int) api.Rule { return counts(item, only(1), nil) }
	kept := counts(4, only(0), nil)
	p := with(plain(2), none(2), none(2), kept, none(4), none(4), none(7))
	if l, e := places.Breaks(p, []int{1}); !slices.Equal(l, []int{0, 1, 3, 4, 5}) || e != api.OK {
		t.Error(l, e)
	}
	if l, e := places.Violates(p, []int{1}); !slices.Equal(l, []int{2, 4, 7}) || e != api.OK {
		t.Error(l, e)
	}
}

// TestOfFillings compares G3 to G6 with their rules.
func TestOfFillings(t *testing.T) {
	seen := map[[2]bool]int{}
	for _, s := range samples(t) {
		for _, f := range s.fillings() {
			sound, e1 := places.Sound(s.Problem, f)
			breaks, e2 := places.Breaks(s.Problem, f)
			violates, e3 := places.Violates(s.Problem, f)
			agrees, e4 := places.Agrees(s.Problem, f)
			if sound != s.sound(f) || !slices.Equal(breaks, s.breaks(f)) || !slices.Equal(violates, s.violates(f)) || agrees != s.agrees(f) {
				t.Fatal(s, f, sound, breaks, violates, agrees)
			}
			if e1 != api.OK || e2 != api.OK || e3 != api.OK || e4 != api.OK {
				t.Fatal(s, f, e1, e2, e3, e4)
			}
			seen[[2]bool{sound, len(breaks) == 0}]++
		}
	}
	for _, kind := range [][2]bool{{false, false}, {false, true}, {true, false}, {true, true}} {
		if seen[kind] < 300 {
			t.Error("few", kind, seen)
		}
	}
}

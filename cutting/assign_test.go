package cutting_test

import (
	"math"
	"math/rand"
	"slices"
	"testing"

	"leadlight/api"
	"leadlight/cutting"
)

// wantAssign tries all lists of sheets, in order.
func (s scene) wantAssign() (sheets []int, area int, ok bool) {
	var rooms [3]chamber
	for grain := range rooms {
		rooms[grain] = chamberOf(s.wants, grain)
	}
	lists := [][]int{nil}
	for range s.wants {
		var longer [][]int
		for _, l := range lists {
			for k := range s.sheets {
				longer = append(longer, append(slices.Clone(l), k))
			}
		}
		lists = longer
	}
	for _, l := range lists {
		sum, holds := 0, true
		for k, sheet := range s.sheets {
			set := 0
			for i, n := range l {
				if n == k {
					set |= 1 << i
					holds = holds && s.wants[i].Colour == sheet.Colour
				}
			}
			holds = holds && rooms[sheet.Grain].room(set, sheet.W, sheet.H)
			if set != 0 {
				sum += sheet.W * sheet.H
			}
		}
		if holds && (!ok || sum < area) {
			sheets, area, ok = l, sum, true
		}
	}
	var ids []int
	for _, k := range sheets {
		ids = append(ids, s.sheets[k].ID)
	}
	return ids, area, ok
}

// TestAssign compares E8 and E15 with their rules, and is the part of P5.4 for Least.
func TestAssign(t *testing.T) {
	d := rand.New(rand.NewSource(6))
	none, several := 0, 0
	for k := range 1500 {
		s := thrownScene(d, 4, 3, 4, 8, 1+k%2)
		if k%3 == 0 {
			// With equal sheets there are many assignments with the same area.
			for i := range s.sheets {
				s.sheets[i].W, s.sheets[i].H = s.sheets[0].W, s.sheets[0].H
			}
		}
		want, least, ok := s.wantAssign()
		sheets, area, e := cutting.Assign(s.wants, s.sheets)
		if !ok {
			if e != api.ErrRoom || len(sheets) > 0 || area != 0 {
				t.Error("none", s, sheets, area, e)
			}
			none++
			least = math.MaxInt
		} else if !slices.Equal(sheets, want) || area != least || e != api.OK {
			t.Error("Assign", s, sheets, want, area, least, e)
		}
		if slices.Sort(want); len(slices.Compact(want)) > 1 {
			several++
		}
		for _, area := range []int{least, least - 1, least/2 + 1, 0, 1, -1, math.MinInt} {
			if is, e := cutting.Least(s.wants, s.sheets, area); is != (area <= least) || e != api.OK {
				t.Error("Least", s, area, least, is, e)
			}
		}
		for _, area := range []int{least, math.MaxInt - 1} {
			if !ok {
				break
			}
			if is, e := cutting.Least(s.wants, s.sheets, area+1); is || e != api.OK {
				t.Error("Least of more", s, area, least, is, e)
			}
		}
	}
	if none < 100 || several < 50 {
		t.Error("few", none, several)
	}
}

func TestAssignExamples(t *testing.T) {
	other := example()
	other[1].Colour = 2
	red := api.Sheet{ID: 7, Colour: 2, W: 9, H: 9}
	small, middle := sheetOf(3, 6, 2), sheetOf(5, 8, 4)
	for name, x := range map[string]struct {
		l    []api.Want
		s    []api.Sheet
		want []int
		area int
	}{
		"example":     {example(), []api.Sheet{pane()}, []int{9, 9}, 60},
		"two sheets":  {example(), []api.Sheet{small, middle, pane()}, []int{5, 3}, 44},
		"no wants":    {nil, []api.Sheet{pane()}, nil, 0},
		"nothing":     {nil, nil, nil, 0},
		"colours":     {other, []api.Sheet{middle, red}, []int{5, 7}, 113},
		"first list":  {wantsOf(boxed(2, 2), boxed(2, 2)), []api.Sheet{sheetOf(1, 2, 2), sheetOf(2, 2, 2), sheetOf(3, 2, 4)}, []int{1, 2}, 8},
		"first sheet": {wantsOf(boxed(2, 2), boxed(2, 2)), []api.Sheet{sheetOf(1, 2, 4), sheetOf(2, 2, 2), sheetOf(3, 2, 2)}, []int{1, 1}, 8},
		"first want":  {wantsOf(boxed(2, 1), boxed(1, 1)), []api.Sheet{sheetOf(1, 1, 1), sheetOf(2, 2, 1), sheetOf(3, 2, 1)}, []int{2, 1}, 3},
	} {
		sheets, area, e := cutting.Assign(x.l, x.s)
		if !slices.Equal(sheets, x.want) || area != x.area || e != api.OK {
			t.Error(name, sheets, area, e)
		}
	}
	for name, x := range map[string]scene{
		"no sheets":    {example(), nil},
		"wrong colour": {other, []api.Sheet{pane()}},
		"no room":      {example(), []api.Sheet{small}},
		"grain":        {[]api.Want{{ID: 1, Colour: 1, Grain: 1, Outline: boxed(6, 2)}}, []api.Sheet{{ID: 1, Colour: 1, W: 6, H: 2, Grain: 2}}},
	} {
		if sheets, area, e := cutting.Assign(x.wants, x.sheets); len(sheets) > 0 || area != 0 || e != api.ErrRoom {
			t.Error(name, sheets, area, e)
		}
		for _, area := range []int{math.MinInt, 0, 99, math.MaxInt} {
			if is, e := cutting.Least(x.wants, x.sheets, area); !is || e != api.OK {
				t.Error("Least", name, is, e)
			}
		}
	}
}

// TestAssignMost has as many wants and sheets as there may be, all of them great.
func TestAssignMost(t *testing.T) {
	var outlines [][]api.Point
	var sheets []api.Sheet
	for k := range 7 {
		outlines = append(outlines, boxed(4096, 4096-k))
		sheets = append(sheets, api.Sheet{ID: 65535 - 6 + k, Colour: 1, W: 4090 + k, H: 4096})
	}
	ids, area, e := cutting.Assign(wantsOf(outlines...), sheets)
	if !slices.Equal(ids, []int{65535, 65534, 65533, 65532, 65531, 65530, 65529}) || area != 4096*(7*4090+21) || e != api.OK {
		t.Error(ids, area, e)
	}
	for k := range sheets {
		sheets[k].W = 4096
	}
	ids, area, e = cutting.Assign(wantsOf(outlines...), sheets)
	if !slices.Equal(ids, []int{65529, 65530, 65531, 65532, 65533, 65534, 65535}) || area != 7*4096*4096 || e != api.OK {
		t.Error(ids, area, e)
	}
}

package cutting

import (
	"leadlight/api"
	"leadlight/plane"
)

// Cut returns how wanted pieces are cut from sheets with the least area of sheets.
func Cut(l []api.Want, s []api.Sheet, bite int) (api.Cutting, api.Errno) {
	if e := argError(l, s, validBite(bite)); e != api.OK {
		return api.Cutting{}, e
	}
	var lines [][]line
	for _, w := range l {
		free, ok := newScorer(w.Outline, bite).freeing()
		if !ok {
			return api.Cutting{}, api.ErrPocket
		}
		lines = append(lines, free)
	}
	t := newTask(l, s)
	best, ok := t.assign()
	if !ok {
		return api.Cutting{}, api.ErrRoom
	}
	out := t.layAll(best)
	for k, p := range out.Placed {
		out.Scores = append(out.Scores, scoresOf(lines[k], turned(l[k], p.Turn, p.At), p.Sheet, p.Want)...)
	}
	return out, api.OK
}

// layAll returns the cutting of assigned wants, with the splits alone.
func (t task) layAll(a assignment) api.Cutting {
	out := api.Cutting{Area: a.area, Placed: make([]api.Placed, len(t.wants))}
	for _, sheet := range t.sheets {
		y := layout{rooms: t.rooms[sheet.Grain], placed: out.Placed}
		y.lay(a.on(sheet.ID), whole(sheet))
		out.Scores = append(out.Scores, y.splits...)
	}
	return out
}

// Waste returns twice the area of what is left over.
func Waste(l []api.Want, c api.Cutting) (int, api.Errno) {
	if e := argError(l, nil, within(c.Area, 0, api.MaxSheets*api.MaxSide*api.MaxSide)); e != api.OK {
		return 0, e
	}
	waste := 2 * c.Area
	for _, w := range l {
		area, _ := plane.Area(w.Outline)
		waste -= area
	}
	return waste, api.OK
}

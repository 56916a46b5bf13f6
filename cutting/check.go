package cutting

import (
	"errors"
	"slices"

	"leadlight/api"
	"leadlight/plane"
)

// Check returns OK if a cutting can be carried out, and else the index of the first score that cannot.
func Check(l []api.Want, s []api.Sheet, bite int, c api.Cutting) (api.Errno, int) {
	if e := argError(l, s, validBite(bite)); e != api.OK {
		return e, 0
	}
	if k, ok := misplaced(l, s, c.Placed); ok {
		return api.ErrRoom, k
	}
	err := newBench(l, s, bite, c.Placed).carryOut(c.Scores)
	var stop stopped
	switch {
	case errors.Is(err, errScore) && errors.As(err, &stop):
		return api.ErrScore, stop.at
	case c.Area != usedArea(s, c.Placed):
		return api.ErrWaste, 0
	}
	return api.OK, 0
}

// misplaced returns the index of the first element that is not placed as it must be, if there is one.
func misplaced(l []api.Want, s []api.Sheet, placed []api.Placed) (int, bool) {
	var boxes []rectangle
	for k := range min(len(l), len(placed)) {
		box, ok := placedBox(l[k], s, placed[k])
		if !ok || slices.ContainsFunc(boxes, box.overlaps) {
			return k, true
		}
		boxes = append(boxes, box)
	}
	return len(boxes), len(l) != len(placed)
}

// placedBox returns the box of a want as it is placed, if it is placed rightly on a sheet.
func placedBox(w api.Want, s []api.Sheet, p api.Placed) (rectangle, bool) {
	k := slices.IndexFunc(s, func(sheet api.Sheet) bool { return sheet.ID == p.Sheet && sheet.Colour == w.Colour })
	if p.Want != w.ID || k < 0 || !validTurn(p.Turn) || !allowed(w, s[k].Grain, p.Turn) || !plane.ValidPoint(p.At) {
		return rectangle{}, false
	}
	box := boxAt(p.Sheet, p.At, boxOf(w, p.Turn))
	return box, box.high.X <= s[k].W && box.high.Y <= s[k].H
}

// usedArea returns the area of the sheets on which something is placed.
func usedArea(s []api.Sheet, placed []api.Placed) int {
	area := 0
	for _, sheet := range s {
		if slices.ContainsFunc(placed, func(p api.Placed) bool { return p.Sheet == sheet.ID }) {
			area += sheet.W * sheet.H
		}
	}
	return area
}

package cutting

import (
	"slices"

	"leadlight/api"
)

// Lay returns where the boxes lie on a sheet, and the scores that split it.
func Lay(l []api.Want, s api.Sheet) ([]api.Placed, []api.Score, api.Errno) {
	if e := argError(l, []api.Sheet{s}, true); e != api.OK {
		return nil, nil, e
	}
	y := layout{rooms: roomsOf(l, s.Grain), placed: make([]api.Placed, len(l))}
	if !y.fit(all(l), whole(s)) {
		return nil, nil, api.ErrRoom
	}
	y.lay(all(l), whole(s))
	return y.placed, y.splits, api.OK
}

// layout is how wants lie on a sheet, and how it is split.
type layout struct {
	rooms
	placed []api.Placed
	splits []api.Score
}

// lay divides a rectangle that has room for a group of wants.
func (y *layout) lay(g group, in rectangle) {
	k, single := g.only()
	switch {
	case g == 0:
	case single:
		y.layOne(k, in)
	default:
		for some, others := range g.halves() {
			near, far, ok := y.divide(in, some, others)
			if !ok {
				continue
			}
			y.split(near, far)
			y.lay(some, near)
			y.lay(others, far)
			return
		}
	}
}

// layOne lays the want k at the least corner of a rectangle that has room for it, and splits off what is left.
func (y *layout) layOne(k int, in rectangle) {
	w := y.wants[k]
	turn := 0
	if !allowed(w, y.grain, 0) || !in.holds(boxOf(w, 0)) {
		turn = 1
	}
	y.placed[k] = api.Placed{Want: w.ID, Sheet: in.sheet, Turn: turn, At: in.low}
	box := boxAt(in.sheet, in.low, boxOf(w, turn))
	for direction := range 2 {
		near, far := in.cut(direction, box.high)
		if far.solid() {
			y.split(near, far)
			in = near
		}
	}
}

// divide returns the parts of the first split by which the near part has room for some wants and the far one for others, if there is one.
func (y *layout) divide(in rectangle, some, others group) (near, far rectangle, ok bool) {
	// What is divided off with the least split has just a least size; these have the least widths first, and the least heights last.
	sizes := slices.Clone(y.sizes(some))
	for direction := range 2 {
		for _, s := range sizes {
			near, far = in.cut(direction, boxAt(in.sheet, in.low, s).high)
			if y.fit(some, near) && y.fit(others, far) {
				return near, far, true
			}
		}
		slices.Reverse(sizes)
	}
	return rectangle{}, rectangle{}, false
}

// split makes the score between two parts, which is the left or the lower side of the far one.
func (y *layout) split(near, far rectangle) {
	y.splits = append(y.splits, api.Score{Sheet: near.sheet, Kind: api.ScoreSplit, Points: []api.Point{far.low, near.high}})
}

package cutting

import (
	"leadlight/api"
	"leadlight/plane"
)

// Allowed reports whether a wanted piece may lie in a turn on a sheet of a grain.
func Allowed(w api.Want, grain, turn int) (bool, api.Errno) {
	if e := argError([]api.Want{w}, nil, validGrain(grain) && validTurn(turn)); e != api.OK {
		return false, e
	}
	return allowed(w, grain, turn), api.OK
}

// BoxOf returns the size of the box of a wanted piece in a turn.
func BoxOf(w api.Want, turn int) (api.Size, api.Errno) {
	if e := argError([]api.Want{w}, nil, validTurn(turn)); e != api.OK {
		return api.Size{}, e
	}
	return boxOf(w, turn), api.OK
}

// Turned returns the outline of a wanted piece in a turn, with its box at a point.
func Turned(w api.Want, turn int, at api.Point) ([]api.Point, api.Errno) {
	if e := argError([]api.Want{w}, nil, validTurn(turn) && plane.ValidPoint(at)); e != api.OK {
		return nil, e
	}
	size := boxOf(w, turn)
	if !plane.ValidPoint(api.Point{X: at.X + size.W, Y: at.Y + size.H}) {
		return nil, api.ErrLimit
	}
	return turned(w, turn, at), api.OK
}

// allowed is Allowed for valid arguments.
func allowed(w api.Want, grain, turn int) bool {
	return w.Grain == 0 || grain == 0 || (w.Grain == grain) == (turn == 0)
}

// boxOf is BoxOf for valid arguments.
func boxOf(w api.Want, turn int) api.Size {
	low, high, _ := plane.Box(w.Outline)
	size := api.Size{W: high.X - low.X, H: high.Y - low.Y}
	if turn == 1 {
		size.W, size.H = size.H, size.W
	}
	return size
}

// turned is Turned for valid arguments.
func turned(w api.Want, turn int, at api.Point) []api.Point {
	low, high, _ := plane.Box(w.Outline)
	var out []api.Point
	for _, p := range w.Outline {
		// How far the corner is from the left and the lower side of the box as it lies: a turn to the left lays the upper side to the left.
		by := api.Point{X: p.X - low.X, Y: p.Y - low.Y}
		if turn == 1 {
			by = api.Point{X: high.Y - p.Y, Y: p.X - low.X}
		}
		out = append(out, api.Point{X: at.X + by.X, Y: at.Y + by.Y})
	}
	return out
}

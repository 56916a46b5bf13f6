package plane

import "leadlight/api"

// ValidMotion reports whether a motion is valid.
func ValidMotion(m api.Motion) bool {
	return 0 <= m.Turn && m.Turn <= 3 && within(m.By.X, 2*api.MaxCoord) && within(m.By.Y, 2*api.MaxCoord)
}

// Move returns the outline of a moved outline, and the setting of the given one in it.
func Move(l []api.Point, m api.Motion) ([]api.Point, api.Setting, api.Errno) {
	if !ValidOutline(l) || !ValidMotion(m) {
		return nil, api.Setting{}, api.ErrArg
	}
	var moved []api.Point
	for _, p := range l {
		moved = append(moved, motion(m).apply(p))
	}
	if !validPoints(moved...) {
		return nil, api.Setting{}, api.ErrLimit
	}
	out := normal(moved)
	shift := numbers(out)[moved[0]]
	if m.Mirror {
		// The corner 0 is laid on the corner Shift + 1.
		shift = (shift + len(l) - 1) % len(l)
	}
	return out, api.Setting{Shift: shift, Back: m.Mirror}, api.OK
}

// ComposeMotions returns the motion that is first m and then n.
func ComposeMotions(m, n api.Motion) (api.Motion, api.Errno) {
	if !ValidMotion(m) || !ValidMotion(n) {
		return api.Motion{}, api.ErrArg
	}
	both := inTurn(motion(m).apply, motion(n).apply)
	turn := m.Turn
	if n.Mirror {
		// What is mirrored after it was turned is turned the other way.
		turn = 4 - turn
	}
	out := api.Motion{Turn: (turn + n.Turn) % 4, Mirror: m.Mirror != n.Mirror, By: both(api.Point{})}
	if !ValidMotion(out) {
		return api.Motion{}, api.ErrLimit
	}
	return out, api.OK
}

// InvertMotion returns the inverse of a motion.
func InvertMotion(m api.Motion) (api.Motion, api.Errno) {
	if !ValidMotion(m) {
		return api.Motion{}, api.ErrArg
	}
	out := api.Motion{Turn: m.Turn, Mirror: m.Mirror}
	if !m.Mirror {
		out.Turn = (4 - m.Turn) % 4
	}
	back := motion(out).apply(m.By)
	out.By = api.Point{X: -back.X, Y: -back.Y}
	return out, api.OK
}

// motion is a motion that can be applied.
type motion api.Motion

func (m motion) apply(p api.Point) api.Point {
	if m.Mirror {
		p.X = -p.X
	}
	for range m.Turn {
		p = api.Point{X: -p.Y, Y: p.X}
	}
	return api.Point{X: p.X + m.By.X, Y: p.Y + m.By.Y}
}

// inTurn returns the function that maps by one function after the other.
func inTurn(maps ...func(api.Point) api.Point) func(api.Point) api.Point {
	return func(p api.Point) api.Point {
		for _, f := range maps {
			p = f(p)
		}
		return p
	}
}

// within reports whether n is from -most to most.
func within(n, most int) bool { return -most <= n && n <= most }

package plane

import "leadlight/api"

// ValidSetting reports whether a setting is valid for outlines with n corners.
func ValidSetting(s api.Setting, n int) bool {
	return 3 <= n && n <= api.MaxCorners && 0 <= s.Shift && s.Shift < n
}

// Settings returns all settings by which p and q are congruent.
func Settings(p, q []api.Point) ([]api.Setting, api.Errno) {
	if !ValidOutline(p) || !ValidOutline(q) {
		return nil, api.ErrArg
	}
	if len(p) != len(q) {
		return nil, api.OK
	}
	var out []api.Setting
	for shift := range p {
		for _, back := range []bool{false, true} {
			if s := (api.Setting{Shift: shift, Back: back}); congruent(p, q, s) {
				out = append(out, s)
			}
		}
	}
	return out, api.OK
}

// Compose returns the setting of p in r if p lies in q by s and q in r by t.
func Compose(s, t api.Setting, n int) (api.Setting, api.Errno) {
	if !ValidSetting(s, n) || !ValidSetting(t, n) {
		return api.Setting{}, api.ErrArg
	}
	return api.Setting{Shift: edge(t, n, s.Shift), Back: s.Back != t.Back}, api.OK
}

// Inverse returns the inverse of a setting.
func Inverse(s api.Setting, n int) (api.Setting, api.Errno) {
	if !ValidSetting(s, n) {
		return api.Setting{}, api.ErrArg
	}
	if !s.Back {
		s.Shift = (n - s.Shift) % n
	}
	return s, api.OK
}

// Edge returns the edge on which edge i lies by a setting.
func Edge(s api.Setting, n, i int) (int, api.Errno) {
	if !ValidSetting(s, n) || i < 0 || i >= n {
		return 0, api.ErrArg
	}
	return edge(s, n, i), api.OK
}

func edge(s api.Setting, n, i int) int {
	if s.Back {
		return (s.Shift - i + n) % n
	}
	return (s.Shift + i) % n
}

// laid returns the corner on which the setting lays the corner i, where the edge i begins.
func laid(s api.Setting, n, i int) int {
	if s.Back {
		// Walked backwards, an edge begins where it ends.
		return (edge(s, n, i) + 1) % n
	}
	return edge(s, n, i)
}

// congruent reports whether two outlines with the same number of corners are congruent by a setting. The edges need no look of their own: they are distances of corners.
func congruent(p, q []api.Point, s api.Setting) bool {
	n := len(p)
	bendsP, bendsQ := bends(p), bends(q)
	for i := range p {
		onI := laid(s, n, i)
		if bendsP[i] != bendsQ[onI] {
			return false
		}
		for k := range i {
			if square(p[i], p[k]) != square(q[onI], q[laid(s, n, k)]) {
				return false
			}
		}
	}
	return true
}

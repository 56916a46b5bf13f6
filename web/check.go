package web

import (
	"leadlight/api"
	"leadlight/plane"
)

// Check returns the first error of a web, and the ID of the first joint or lead that is wrong.
func Check(w api.Web) (api.Errno, int) {
	if len(w.Joints) > api.MaxJoints || len(w.Leads) > api.MaxLeads {
		return api.ErrLimit, 0
	}
	if k := wrongJoint(w.Joints); k >= 0 {
		return api.ErrJoint, w.Joints[k].ID
	}
	if k := wrongLead(w); k >= 0 {
		return api.ErrLead, w.Leads[k].ID
	}
	if k := wrongMeet(w); k >= 0 {
		return api.ErrMeet, w.Leads[k].ID
	}
	return api.OK, 0
}

// wrongJoint returns the index of the first joint that is not as a web needs it, or -1.
func wrongJoint(joints []api.Joint) int {
	taken := map[api.Point]bool{}
	before := 0
	for k, j := range joints {
		// IDs begin with 1, so the first one is also greater than the one before it.
		if j.ID <= before || j.ID > api.MaxID || !plane.ValidPoint(j.At) || taken[j.At] {
			return k
		}
		taken[j.At] = true
		before = j.ID
	}
	return -1
}

// wrongLead returns the index of the first lead that is not as a web of valid joints needs it, or -1.
func wrongLead(w api.Web) int {
	type pair struct{ low, high int }
	joined := map[pair]bool{}
	before := 0
	for k, l := range w.Leads {
		ends := pair{min(l.A, l.B), max(l.A, l.B)}
		if l.ID <= before || l.ID > api.MaxID || !validLead(w.Joints, l) || joined[ends] {
			return k
		}
		joined[ends] = true
		before = l.ID
	}
	return -1
}

// validLead reports whether a lead is valid but for its ID.
func validLead(joints []api.Joint, l api.Lead) bool {
	_, beginsAtJoint := find(joints, jointID, l.A)
	_, endsAtJoint := find(joints, jointID, l.B)
	return beginsAtJoint && endsAtJoint && l.A != l.B &&
		upTo(l.Heart, api.MaxGive) && upTo(l.Left, api.MaxGive) && upTo(l.Right, api.MaxGive) &&
		upTo(l.Give, api.MaxGive) && upTo(l.Cost, api.MaxPrice)
}

// segment is a lead with the points of its ends.
type segment struct {
	lead api.Lead
	a, b api.Point
}

// wrongMeet returns the index of the first of valid leads that meets a joint, or a lead before it, elsewhere than at an end of both, or -1.
func wrongMeet(w api.Web) int {
	var earlier []segment
	for k, l := range w.Leads {
		a, _ := find(w.Joints, jointID, l.A)
		b, _ := find(w.Joints, jointID, l.B)
		s := segment{l, a.At, b.At}
		for _, j := range w.Joints {
			if j.ID != l.A && j.ID != l.B && lies(j.At, s.a, s.b) {
				return k
			}
		}
		for _, t := range earlier {
			if collide(s, t) {
				return k
			}
		}
		earlier = append(earlier, s)
	}
	return -1
}

// collide reports whether two leads have a point in common that is not an end of both.
func collide(s, t segment) bool {
	meet, _ := plane.Meet(s.a, s.b, t.a, t.b)
	if meet == api.MeetTouch {
		// The only point that they have in common is a shared end, if there is one.
		l, m := s.lead, t.lead
		return l.A != m.A && l.A != m.B && l.B != m.A && l.B != m.B
	}
	return meet != api.MeetNone
}

package web

import (
	"slices"

	"leadlight/api"
)

// Apply returns a web after an edit.
func Apply(w api.Web, e api.Edit) (api.Web, api.Errno) {
	_, after, err := carryOut(w, e)
	return after, err
}

// Inverse returns the edit that undoes an edit of a web.
func Inverse(w api.Web, e api.Edit) (api.Edit, api.Errno) {
	c, _, err := carryOut(w, e)
	if err != api.OK {
		return api.Edit{}, err
	}
	return c.inverse(w).edit(), api.OK
}

// change is an edit of one kind.
type change interface {
	// edit returns the edit, with the fields that its kind names.
	edit() api.Edit
	// fits reports whether what the edit names is there in a valid web, and is as its kind needs it.
	fits(w api.Web) bool
	// apply returns the web after the change, which fits it.
	apply(w api.Web) api.Web
	// inverse returns the change that leads back to a web that this one fits.
	inverse(w api.Web) change
}

// carryOut returns the change that an edit is, and the web after it.
func carryOut(w api.Web, e api.Edit) (change, api.Web, api.Errno) {
	if err, _ := Check(w); err != api.OK {
		return nil, api.Web{}, err
	}
	c, ok := changeOf(e)
	if !ok || c.edit() != e || !c.fits(w) {
		return nil, api.Web{}, api.ErrEdit
	}
	after := c.apply(w)
	if err, _ := Check(after); err != api.OK {
		return nil, api.Web{}, err
	}
	return c, after, api.OK
}

// changeOf returns the change that an edit is by the fields that its kind names; there is none of an unknown kind.
func changeOf(e api.Edit) (change, bool) {
	switch e.Kind {
	case api.EditJoint:
		return addJoint{e.Joint}, true
	case api.EditLead:
		return addLead{e.Lead}, true
	case api.EditSplit:
		return splitLead{e.Lead.ID, e.Joint, e.Other}, true
	case api.EditUnjoint:
		return dropJoint{e.Joint.ID}, true
	case api.EditUnlead:
		return dropLead{e.Lead.ID}, true
	case api.EditMerge:
		return mergeLeads{e.Lead.ID, e.Joint.ID, e.Other}, true
	}
	return nil, false
}

type addJoint struct{ joint api.Joint }

func (c addJoint) edit() api.Edit { return api.Edit{Kind: api.EditJoint, Joint: c.joint} }

func (c addJoint) fits(w api.Web) bool { return true }

func (c addJoint) apply(w api.Web) api.Web {
	return api.Web{Joints: insert(w.Joints, jointID, c.joint), Leads: slices.Clone(w.Leads)}
}

func (c addJoint) inverse(w api.Web) change { return dropJoint{c.joint.ID} }

type dropJoint struct{ joint int }

func (c dropJoint) edit() api.Edit {
	return api.Edit{Kind: api.EditUnjoint, Joint: api.Joint{ID: c.joint}}
}

func (c dropJoint) fits(w api.Web) bool {
	_, ok := find(w.Joints, jointID, c.joint)
	return ok && degree(w, c.joint) == 0
}

func (c dropJoint) apply(w api.Web) api.Web {
	return api.Web{Joints: remove(w.Joints, jointID, c.joint), Leads: slices.Clone(w.Leads)}
}

func (c dropJoint) inverse(w api.Web) change {
	j, _ := find(w.Joints, jointID, c.joint)
	return addJoint{j}
}

type addLead struct{ lead api.Lead }

func (c addLead) edit() api.Edit { return api.Edit{Kind: api.EditLead, Lead: c.lead} }

func (c addLead) fits(w api.Web) bool { return true }

func (c addLead) apply(w api.Web) api.Web {
	return api.Web{Joints: slices.Clone(w.Joints), Leads: insert(w.Leads, leadID, c.lead)}
}

func (c addLead) inverse(w api.Web) change { return dropLead{c.lead.ID} }

type dropLead struct{ lead int }

func (c dropLead) edit() api.Edit {
	return api.Edit{Kind: api.EditUnlead, Lead: api.Lead{ID: c.lead}}
}

func (c dropLead) fits(w api.Web) bool {
	_, ok := find(w.Leads, leadID, c.lead)
	return ok
}

func (c dropLead) apply(w api.Web) api.Web {
	return api.Web{Joints: slices.Clone(w.Joints), Leads: remove(w.Leads, leadID, c.lead)}
}

func (c dropLead) inverse(w api.Web) change {
	l, _ := find(w.Leads, leadID, c.lead)
	return addLead{l}
}

type splitLead struct {
	lead  int
	joint api.Joint
	other int
}

func (c splitLead) edit() api.Edit {
	return api.Edit{Kind: api.EditSplit, Joint: c.joint, Lead: api.Lead{ID: c.lead}, Other: c.other}
}

func (c splitLead) fits(w api.Web) bool {
	l, ok := find(w.Leads, leadID, c.lead)
	a, _ := find(w.Joints, jointID, l.A)
	b, _ := find(w.Joints, jointID, l.B)
	return ok && c.joint.At != a.At && c.joint.At != b.At && lies(c.joint.At, a.At, b.At)
}

func (c splitLead) apply(w api.Web) api.Web {
	l, _ := find(w.Leads, leadID, c.lead)
	tail := l
	tail.ID, tail.A = c.other, c.joint.ID
	l.B = c.joint.ID
	return api.Web{Joints: insert(w.Joints, jointID, c.joint), Leads: insert(replace(w.Leads, leadID, l), leadID, tail)}
}

func (c splitLead) inverse(w api.Web) change { return mergeLeads{c.lead, c.joint.ID, c.other} }

type mergeLeads struct{ lead, joint, other int }

func (c mergeLeads) edit() api.Edit {
	return api.Edit{Kind: api.EditMerge, Joint: api.Joint{ID: c.joint}, Lead: api.Lead{ID: c.lead}, Other: c.other}
}

func (c mergeLeads) fits(w api.Web) bool {
	l, hasLead := find(w.Leads, leadID, c.lead)
	m, hasOther := find(w.Leads, leadID, c.other)
	if !hasLead || !hasOther || l.B != c.joint || m.A != c.joint || degree(w, c.joint) != 2 {
		return false
	}
	a, _ := find(w.Joints, jointID, l.A)
	j, _ := find(w.Joints, jointID, c.joint)
	b, _ := find(w.Joints, jointID, m.B)
	same := l
	same.ID, same.A, same.B = m.ID, m.A, m.B
	return same == m && lies(j.At, a.At, b.At)
}

func (c mergeLeads) apply(w api.Web) api.Web {
	l, _ := find(w.Leads, leadID, c.lead)
	m, _ := find(w.Leads, leadID, c.other)
	l.B = m.B
	return api.Web{Joints: remove(w.Joints, jointID, c.joint), Leads: remove(replace(w.Leads, leadID, l), leadID, c.other)}
}

func (c mergeLeads) inverse(w api.Web) change {
	j, _ := find(w.Joints, jointID, c.joint)
	return splitLead{c.lead, j, c.other}
}

// degree returns how many leads a joint has.
func degree(w api.Web, joint int) int {
	count := 0
	for _, l := range w.Leads {
		if l.A == joint || l.B == joint {
			count++
		}
	}
	return count
}

// insert returns a list by rising ID with one more element, after all with a lesser or the same ID.
func insert[T any](l []T, id func(T) int, x T) []T {
	k, same := place(l, id, id(x))
	if same {
		k++
	}
	return slices.Insert(slices.Clone(l), k, x)
}

// remove returns a list by rising ID without the element with an ID.
func remove[T any](l []T, id func(T) int, gone int) []T {
	k, _ := place(l, id, gone)
	return slices.Delete(slices.Clone(l), k, k+1)
}

// replace returns a list by rising ID with another element for the one with its ID.
func replace[T any](l []T, id func(T) int, x T) []T {
	out := slices.Clone(l)
	k, _ := place(out, id, id(x))
	out[k] = x
	return out
}

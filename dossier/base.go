package dossier

import (
	"slices"

	"leadlight/api"
	"leadlight/benches"
	"leadlight/web"
)

// baseActions are the commands of the table Before begin.
func baseActions() map[string]action {
	return map[string]action{
		"joint":   early(exactly(3), (*console).addJoint),
		"lead":    early(exactly(8), (*console).addLead),
		"split":   early(exactly(5), (*console).splitLead),
		"unjoint": early(exactly(1), (*console).removeJoint),
		"unlead":  early(exactly(1), (*console).removeLead),
		"open":    early(atLeast(0, 1), (*console).openLeads),
		"pin":     early(exactly(2), (*console).addPin),
		"palette": early(exactly(1), (*console).setPalette),
		"film":    early(atLeast(2, 1), (*console).addFilm),
		"sheet":   early(exactly(5), (*console).addSheet),
		"bite":    early(exactly(1), (*console).setBite),
		"prices":  early(exactly(3), (*console).setPrices),
		"begin":   early(exactly(1), (*console).begin),
	}
}

// edit changes the web of the base.
func (s *state) edit(x api.Edit) (string, api.Errno) {
	w, e := web.Apply(s.base.Panel.Web, x)
	if e != api.OK {
		return "", e
	}
	s.base.Panel.Web = w
	return "", api.OK
}

func (s *state) addJoint(a []int) (string, api.Errno) {
	return s.edit(api.Edit{Kind: api.EditJoint, Joint: api.Joint{ID: a[0], At: api.Point{X: a[1], Y: a[2]}}})
}

func (s *state) addLead(a []int) (string, api.Errno) {
	l := api.Lead{ID: a[0], A: a[1], B: a[2], Heart: a[3], Left: a[4], Right: a[5], Give: a[6], Cost: a[7]}
	return s.edit(api.Edit{Kind: api.EditLead, Lead: l})
}

func (s *state) splitLead(a []int) (string, api.Errno) {
	j := api.Joint{ID: a[1], At: api.Point{X: a[2], Y: a[3]}}
	return s.edit(api.Edit{Kind: api.EditSplit, Joint: j, Lead: api.Lead{ID: a[0]}, Other: a[4]})
}

func (s *state) removeJoint(a []int) (string, api.Errno) {
	if _, e := web.JointOf(s.base.Panel.Web, a[0]); e != api.OK {
		return "", e
	}
	return s.edit(api.Edit{Kind: api.EditUnjoint, Joint: api.Joint{ID: a[0]}})
}

func (s *state) removeLead(a []int) (string, api.Errno) {
	if _, e := web.LeadOf(s.base.Panel.Web, a[0]); e != api.OK {
		return "", e
	}
	return s.edit(api.Edit{Kind: api.EditUnlead, Lead: api.Lead{ID: a[0]}})
}

func (s *state) openLeads(a []int) (string, api.Errno) {
	s.base.Panel.Open = a
	return "", api.OK
}

func (s *state) addPin(a []int) (string, api.Errno) {
	s.base.Panel.Pins = append(s.base.Panel.Pins, api.Pin{Joint: a[0], Play: a[1]})
	return "", api.OK
}

func (s *state) setPalette(a []int) (string, api.Errno) {
	s.base.Palette = a[0]
	return "", api.OK
}

func (s *state) addFilm(a []int) (string, api.Errno) {
	s.base.Films = append(s.base.Films, api.Film{ID: a[0], Grey: slices.Clone(a[1:])})
	return "", api.OK
}

func (s *state) addSheet(a []int) (string, api.Errno) {
	s.base.Sheets = append(s.base.Sheets, api.Sheet{ID: a[0], Colour: a[1], W: a[2], H: a[3], Grain: a[4]})
	return "", api.OK
}

func (s *state) setBite(a []int) (string, api.Errno) {
	s.base.Bite = a[0]
	return "", api.OK
}

func (s *state) setPrices(a []int) (string, api.Errno) {
	s.base.Turn, s.base.Move, s.base.New = a[0], a[1], a[2]
	return "", api.OK
}

func (s *state) begin(a []int) (string, api.Errno) {
	if !ValidBase(s.base) {
		return "", api.ErrBase
	}
	w, e := benches.NewWorld(a[0])
	if e != api.OK {
		return "", e
	}
	s.world = w
	return "", api.OK
}

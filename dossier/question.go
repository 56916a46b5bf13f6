package dossier

import (
	"leadlight/api"
	"leadlight/benches"
)

// questionActions are the commands of the table Questions that ask a register.
func questionActions() map[string]action {
	return map[string]action{
		"where":     late(exactly(2), (*console).tellWhere),
		"asof":      late(exactly(4), (*console).tellAsOf),
		"stays":     late(exactly(2), (*console).tellStays),
		"conflicts": late(exactly(1), (*console).tellConflicts),
		"dossier":   late(exactly(2), (*console).makeDossier),
	}
}

// register returns the register of a bench.
func (s *state) register(bench int) (api.Register, api.Errno) {
	l, e := s.world.Notes(bench)
	if e != api.OK {
		return api.Register{}, e
	}
	return benches.Fold(l)
}

func (s *state) tellWhere(a []int) (string, api.Errno) {
	r, e := s.register(a[0])
	if e != api.OK {
		return "", e
	}
	return whereText(r, a[1])
}

func (s *state) tellAsOf(a []int) (string, api.Errno) {
	l, e := s.world.Notes(a[0])
	if e != api.OK {
		return "", e
	}
	r, e := benches.AsOf(l, a[1], a[2])
	if e != api.OK {
		return "", e
	}
	return whereText(r, a[3])
}

// whereText tells where a piece is by a register.
func whereText(r api.Register, piece int) (string, api.Errno) {
	at, e := benches.WhereIs(r, piece)
	if e != api.OK {
		return "", e
	}
	switch at.Kind {
	case api.AtBench:
		return phrase("bench", at.At), api.OK
	case api.InTray:
		return phrase("tray", at.Tray.Bench, at.Tray.Num), api.OK
	case api.InPane:
		return phrase("pane", at.At, at.Setting.Shift, number(at.Setting.Back)), api.OK
	}
	return "broken", api.OK
}

// number returns 1 for true and 0 for false.
func number(is bool) int {
	if is {
		return 1
	}
	return 0
}

func (s *state) tellStays(a []int) (string, api.Errno) {
	l, e := s.world.Notes(a[0])
	if e != api.OK {
		return "", e
	}
	stays, e := benches.Stays(l, a[1])
	if e != api.OK {
		return "", e
	}
	var out []int
	for _, x := range stays {
		out = append(out, x.Year, x.Ref.Bench, x.Ref.Num, x.Where.Kind)
	}
	return phrase("stays", out...), api.OK
}

func (s *state) tellConflicts(a []int) (string, api.Errno) {
	r, e := s.register(a[0])
	if e != api.OK {
		return "", e
	}
	var out []int
	for _, ref := range r.Conflicts {
		out = append(out, ref.Bench, ref.Num)
	}
	return phrase("conflicts", out...), api.OK
}

func (s *state) makeDossier(a []int) (string, api.Errno) {
	r, e := s.register(a[0])
	if e != api.OK {
		return "", e
	}
	j, e := JobOf(s.base, r, a[1])
	if e != api.OK {
		return "", e
	}
	d, e := Build(j)
	if e != api.OK {
		return "", e
	}
	s.dossier = &d
	switch {
	case len(d.Clash) > 0:
		return phrase("clash", d.Clash...), api.OK
	case d.Trouble != api.OK:
		return phrase("trouble", int(d.Trouble)), api.OK
	}
	return phrase("plan", d.Plan.Cost), api.OK
}

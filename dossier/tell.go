package dossier

import "leadlight/api"

// dossierActions are the commands of the table Questions that ask the console's dossier.
func dossierActions() map[string]action {
	return map[string]action{
		"check":     ask(0, tellCheck),
		"content":   ask(1, tellContent),
		"place":     ask(1, tellPlace),
		"forced":    ask(0, tellForced),
		"target":    ask(0, tellTarget),
		"disturbed": ask(0, tellDisturbed),
		"steps":     ask(0, tellSteps),
	}
}

// ask returns the action of a command with n numbers that asks the dossier.
func ask(n int, tell func(d api.Dossier, a []int) (string, api.Errno)) action {
	return late(exactly(n), func(c *console, a []int) (string, api.Errno) {
		if c.dossier == nil {
			return "", api.ErrReady
		}
		return tell(*c.dossier, a)
	})
}

// tellCheck checks what others would read, and not what stands in memory.
func tellCheck(d api.Dossier, _ []int) (string, api.Errno) {
	b, e := Encode(d)
	if e != api.OK {
		return "", e
	}
	back, e := Decode(b)
	if e != api.OK {
		return "", e
	}
	var out []int
	for _, f := range Check(back) {
		out = append(out, f.Kind, f.Index)
	}
	return phrase("findings", out...), api.OK
}

func tellContent(d api.Dossier, a []int) (string, api.Errno) {
	l, e := Content(d, a[0])
	if e != api.OK {
		return "", e
	}
	var out []int
	for _, o := range l {
		out = append(out, o.Piece, o.Setting.Shift, number(o.Setting.Back), o.Colour)
	}
	return phrase("content", out...), api.OK
}

func tellPlace(d api.Dossier, a []int) (string, api.Errno) {
	panes, nowhere, e := Place(d, a[0])
	if e != api.OK {
		return "", e
	}
	return phrase(phrase("place", number(nowhere)), panes...), api.OK
}

func tellForced(d api.Dossier, _ []int) (string, api.Errno) {
	l, e := Forced(d)
	if e != api.OK {
		return "", e
	}
	return heldText("forced", l), api.OK
}

func tellTarget(d api.Dossier, _ []int) (string, api.Errno) {
	l, e := Target(d)
	if e != api.OK {
		return "", e
	}
	return heldText("target", l), api.OK
}

// heldText tells what panes hold.
func heldText(word string, l []api.Held) string {
	var out []int
	for _, h := range l {
		out = append(out, h.Pane, h.Piece, h.Setting.Shift, number(h.Setting.Back), h.Colour)
	}
	return phrase(word, out...)
}

func tellDisturbed(d api.Dossier, _ []int) (string, api.Errno) {
	panes, leads, e := Disturbed(d)
	if e != api.OK {
		return "", e
	}
	return phrase("panes", panes...) + " " + phrase("leads", leads...), api.OK
}

func tellSteps(d api.Dossier, _ []int) (string, api.Errno) {
	if d.Trouble != api.OK {
		return "", api.ErrNone
	}
	var out []int
	for _, s := range d.Plan.Steps {
		what := s.Pane
		if s.Kind == api.StepCut {
			what = s.Score.Kind
		}
		out = append(out, s.Kind, what)
	}
	return phrase("steps", out...), api.OK
}

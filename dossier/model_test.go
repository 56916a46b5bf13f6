package dossier_test

import (
	"fmt"
	"slices"
	"strings"

	"leadlight/api"
	"leadlight/benches"
	"leadlight/dossier"
	"leadlight/glass"
	"leadlight/web"
)

// model says anew what the console does, table by table.
type model struct {
	base   api.Base
	world  *benches.World
	drafts []api.Piece // the last one with an ID counts
	fix    []api.Ref   // one or none
	told   []api.Dossier
}

// wantRun is the rule of Run.
func wantRun(script string) (string, *model) {
	m := &model{base: api.Base{Palette: 1}}
	if len(script) > 65536 {
		return "error 2\n", m
	}
	var out strings.Builder
	lines := strings.SplitAfter(script, "\n")
	for i, line := range lines {
		if i == 400 || line == "" {
			break
		}
		line = strings.TrimSuffix(line, "\n")
		if line != "" {
			out.WriteString(m.answer(line))
		}
		out.WriteString("\n")
	}
	return out.String(), m
}

func (m *model) answer(line string) string {
	c, e := dossier.Parse(line)
	if e != api.OK || !allowed(c.Word, c.Args) {
		return "error 103"
	}
	if early := strings.Contains(" joint lead split unjoint unlead open pin palette film sheet bite prices begin ", " "+c.Word+" "); early == (m.world != nil) {
		return "error 104"
	}
	text, e := m.do(c.Word, c.Args)
	if e != api.OK {
		return fmt.Sprint("error ", int(e))
	}
	return text
}

// allowed reports whether the tables have a word with so many numbers.
func allowed(word string, a []int) bool {
	n := len(a)
	switch word {
	case "settle", "check", "forced", "target", "disturbed", "steps":
		return n == 0
	case "unjoint", "unlead", "palette", "bite", "begin", "sync", "deliver", "lose", "double", "arrive", "conflicts", "content", "place":
		return n == 1
	case "pin", "fix", "ask", "where", "stays", "dossier":
		return n == 2
	case "joint", "prices", "find", "take", "crash":
		return n == 3
	case "mark", "got", "glass", "withdraw", "asof":
		return n == 4
	case "split", "sheet":
		return n == 5
	case "paint", "set":
		return n == 6
	case "lead":
		return n == 8
	case "open":
		return true
	case "film", "relead":
		return n >= 2
	case "send", "break":
		return n >= 3
	case "face":
		return n >= 4
	case "kept":
		return n >= 5
	case "survivors":
		return n >= 6
	case "piece":
		return n >= 12 && n%2 == 0
	case "photo":
		return n == 8 || n == 11 || n >= 14 && n%3 == 2
	case "rubbing":
		return n == 10 || n >= 16 && n%6 == 4
	case "inventory":
		return n >= 7 && a[6] >= 0 && n-7-a[6] >= 0
	}
	return false
}

func (m *model) do(word string, a []int) (string, api.Errno) {
	switch {
	case m.world == nil:
		return "ok", m.prepare(word, a)
	case word == "piece" || word == "mark" || word == "fix":
		return "ok", m.draft(word, a)
	}
	events := map[string]api.Event{
		"sync": {Kind: 2}, "ask": {Kind: 3}, "deliver": {Kind: 4}, "lose": {Kind: 5}, "double": {Kind: 6}, "arrive": {Kind: 7}, "crash": {Kind: 8},
	}
	if e, is := events[word]; is {
		a = append(a, 0, 0)
		e.Bench, e.Index, e.To, e.Keep, e.Flip = a[0], a[0], a[1], a[1], a[2]
		return "ok", m.world.Step(e)
	}
	if word == "settle" {
		return "ok", m.world.Settle()
	}
	if len(a) > 1 && kinds[word] > 0 {
		return m.note(word, a)
	}
	return m.question(word, a)
}

// prepare is the table Before begin.
func (m *model) prepare(word string, a []int) api.Errno {
	b := &m.base
	switch word {
	case "open":
		b.Panel.Open = a
	case "pin":
		b.Panel.Pins = append(b.Panel.Pins, api.Pin{Joint: a[0], Play: a[1]})
	case "palette":
		b.Palette = a[0]
	case "film":
		b.Films = append(b.Films, api.Film{ID: a[0], Grey: a[1:]})
	case "sheet":
		b.Sheets = append(b.Sheets, api.Sheet{ID: a[0], Colour: a[1], W: a[2], H: a[3], Grain: a[4]})
	case "bite":
		b.Bite = a[0]
	case "prices":
		b.Turn, b.Move, b.New = a[0], a[1], a[2]
	case "begin":
		if !dossier.ValidBase(*b) {
			return api.ErrBase
		}
		w, e := benches.NewWorld(a[0])
		if e == api.OK {
			m.world = w
		}
		return e
	default:
		return m.edit(word, a)
	}
	return api.OK
}

func (m *model) edit(word string, a []int) api.Errno {
	w := m.base.Panel.Web
	var x api.Edit
	switch word {
	case "joint":
		x = api.Edit{Kind: 1, Joint: api.Joint{ID: a[0], At: at(a[1], a[2])}}
	case "lead":
		x = api.Edit{Kind: 2, Lead: api.Lead{ID: a[0], A: a[1], B: a[2], Heart: a[3], Left: a[4], Right: a[5], Give: a[6], Cost: a[7]}}
	case "split":
		x = api.Edit{Kind: 3, Lead: api.Lead{ID: a[0]}, Joint: api.Joint{ID: a[1], At: at(a[2], a[3])}, Other: a[4]}
	case "unjoint":
		x = api.Edit{Kind: 4, Joint: api.Joint{ID: a[0]}}
		if !slices.ContainsFunc(w.Joints, func(j api.Joint) bool { return j.ID == a[0] }) {
			return api.ErrNone
		}
	case "unlead":
		x = api.Edit{Kind: 5, Lead: api.Lead{ID: a[0]}}
		if !slices.ContainsFunc(w.Leads, func(l api.Lead) bool { return l.ID == a[0] }) {
			return api.ErrNone
		}
	}
	w, e := web.Apply(w, x)
	if e == api.OK {
		m.base.Panel.Web = w
	}
	return e
}

// find returns the draft with an ID.
func (m *model) find(id int) (api.Piece, bool) {
	for _, p := range slices.Backward(m.drafts) {
		if p.ID == id {
			return p, true
		}
	}
	return api.Piece{}, false
}

// draft is the table Drafts.
func (m *model) draft(word string, a []int) api.Errno {
	var p api.Piece
	switch word {
	case "fix":
		m.fix = []api.Ref{{Bench: a[0], Num: a[1]}}
		return api.OK
	case "mark":
		old, is := m.find(a[0])
		if !is {
			return api.ErrNone
		}
		p = plain(old)
		x := api.Mark{Edge: a[1], At: a[2], Tone: a[3]}
		k := 0
		for k < len(p.Marks) && slices.Compare([]int{p.Marks[k].Edge, p.Marks[k].At, p.Marks[k].Tone}, a[1:]) < 0 {
			k++
		}
		p.Marks = slices.Insert(p.Marks, k, x)
	case "piece":
		var l []api.Point
		for k := 6; k < len(a); k += 2 {
			l = append(l, at(a[k], a[k+1]))
		}
		g, e := glass.Gauges(l)
		if e != api.OK {
			return e
		}
		g, e = glass.Widen(g, a[5])
		if e != api.OK {
			return e
		}
		p = api.Piece{ID: a[0], Colour: a[1], Reverse: a[2], Made: a[3], Swell: a[4], Gauges: g}
	}
	if !glass.ValidPiece(p) {
		return api.ErrPiece
	}
	m.drafts = append(m.drafts, p)
	return api.OK
}

// kinds are the kinds of notes.
var kinds = map[string]int{
	"find": 1, "photo": 2, "rubbing": 2, "inventory": 2, "kept": 2, "paint": 2, "survivors": 2, "face": 2, "relead": 3, "send": 4, "got": 5, "set": 6, "glass": 6, "take": 7, "break": 8, "withdraw": 10,
}

// note is the table of notes.
func (m *model) note(word string, a []int) (string, api.Errno) {
	n := api.Note{Year: a[1], Kind: kinds[word]}
	var fix []api.Ref
	if word != "got" && word != "withdraw" {
		fix, m.fix = m.fix, nil
	}
	if n.Kind == 2 {
		n.Item = itemOf(word, a)
	} else if e := m.content(&n, word, a); e != api.OK {
		return "", e
	}
	if len(fix) > 0 {
		n.Kind, n.Fix, n.Ref = 9, n.Kind, fix[0]
	}
	if e := m.world.Step(api.Event{Kind: 1, Bench: a[0], Note: n}); e != api.OK {
		return "", e
	}
	own := 0
	l, _ := m.world.Notes(a[0])
	for _, x := range l {
		if x.Bench == a[0] {
			own++
		}
	}
	return fmt.Sprint("ok ", own), api.OK
}

// content fills a note that is no item.
func (m *model) content(n *api.Note, word string, a []int) api.Errno {
	var ids []int
	switch word {
	case "find":
		ids = a[2:]
	case "break":
		n.Piece, ids = a[2], a[3:]
	case "relead":
		n.Panes = a[2:]
	case "send":
		n.To, n.Pieces = a[2], a[3:]
	case "got", "withdraw":
		n.Ref = api.Ref{Bench: a[2], Num: a[3]}
	case "glass":
		n.Pane, n.Colour = a[2], a[3]
	case "take":
		n.Pane = a[2]
	case "set":
		n.Pane, n.Piece, n.Setting = a[2], a[3], api.Setting{Shift: a[4], Back: a[5] == 1}
		if a[5] != 0 && a[5] != 1 {
			return api.ErrArg
		}
	}
	for _, id := range ids {
		p, is := m.find(id)
		if !is {
			return api.ErrNone
		}
		n.Data = append(n.Data, p)
	}
	return api.OK
}

// itemOf returns the item of a command.
func itemOf(word string, a []int) api.Item {
	x := api.Item{ID: a[2], Year: a[3]}
	switch word {
	case "photo":
		x.Kind, x.Film = 1, a[4]
		for k := 5; k < len(a); k += 3 {
			x.Sights = append(x.Sights, api.Sight{Pane: a[k], Grey: api.Span{Lo: a[k+1], Hi: a[k+2]}})
		}
	case "rubbing":
		x.Kind = 2
		for k := 4; k < len(a); k += 6 {
			x.Sights = append(x.Sights, api.Sight{Pane: a[k], Edge: a[k+1], At: api.Span{Lo: a[k+2], Hi: a[k+3]}, Count: api.Span{Lo: a[k+4], Hi: a[k+5]}})
		}
	case "inventory":
		x.Kind, x.Count = 3, api.Span{Lo: a[4], Hi: a[5]}
		x.Panes, x.Colours = a[7:7+a[6]], a[7+a[6]:]
	case "kept":
		x.Kind, x.Piece, x.Panes = 4, a[4], a[5:]
	case "paint":
		x.Kind, x.Lead, x.Slack = 5, a[4], a[5]
	case "survivors":
		x.Kind, x.Count, x.Panes = 6, api.Span{Lo: a[4], Hi: a[5]}, a[6:]
	case "face":
		x.Kind, x.Panes = 7, a[4:]
	}
	return x
}

// put returns a word with numbers, booleans and errors behind it.
func put(word string, l ...any) string {
	for _, x := range l {
		switch v := x.(type) {
		case bool:
			word += map[bool]string{false: " 0", true: " 1"}[v]
		case []int:
			for _, n := range v {
				word += fmt.Sprintf(" %d", n)
			}
		default:
			word += fmt.Sprintf(" %d", v)
		}
	}
	return word
}

// question is the table of questions.
func (m *model) question(word string, a []int) (string, api.Errno) {
	if !strings.Contains(" where asof stays conflicts dossier ", " "+word+" ") {
		return m.reading(word, a)
	}
	l, e := m.world.Notes(a[0])
	if e != api.OK {
		return "", api.ErrNone
	}
	r, _ := benches.Fold(l)
	switch word {
	case "where":
		return place(r, a[1])
	case "asof":
		r, _ := benches.AsOf(l, a[1], a[2])
		return place(r, a[3])
	case "stays":
		stays, e := benches.Stays(l, a[1])
		out := "stays"
		for _, s := range stays {
			out = put(out, s.Year, s.Ref.Bench, s.Ref.Num, s.Where.Kind)
		}
		return out, e
	case "conflicts":
		out := "conflicts"
		for _, c := range r.Conflicts {
			out = put(out, c.Bench, c.Num)
		}
		return out, api.OK
	}
	j, e := dossier.JobOf(m.base, r, a[1])
	if e != api.OK {
		return "", e
	}
	d, e := dossier.Build(j)
	if e != api.OK {
		return "", e
	}
	m.told = append(m.told, d)
	if len(d.Clash) > 0 {
		return put("clash", d.Clash), api.OK
	}
	if d.Trouble != api.OK {
		return put("trouble", d.Trouble), api.OK
	}
	return put("plan", d.Plan.Cost), api.OK
}

// place tells where a piece is.
func place(r api.Register, piece int) (string, api.Errno) {
	x, e := benches.WhereIs(r, piece)
	return []string{
		"", put("bench", x.At), put("tray", x.Tray.Bench, x.Tray.Num), put("pane", x.At, x.Setting.Shift, x.Setting.Back), "broken",
	}[x.Kind], e
}

// reading is the table of what the dossier tells.
func (m *model) reading(word string, a []int) (string, api.Errno) {
	if len(m.told) == 0 {
		return "", api.ErrReady
	}
	d := m.told[len(m.told)-1]
	out := word
	var e api.Errno
	var held []api.Held
	switch word {
	case "check":
		out = "findings"
		for _, f := range dossier.Check(d) {
			out = put(out, f.Kind, f.Index)
		}
	case "content":
		var l []api.Option
		l, e = dossier.Content(d, a[0])
		for _, o := range l {
			out = put(out, o.Piece, o.Setting.Shift, o.Setting.Back, o.Colour)
		}
	case "place":
		panes, nowhere, f := dossier.Place(d, a[0])
		out, e = put(out, nowhere, panes), f
	case "forced":
		held, e = dossier.Forced(d)
	case "target":
		held, e = dossier.Target(d)
	case "disturbed":
		panes, leads, f := dossier.Disturbed(d)
		out, e = put("panes", panes)+put(" leads", leads), f
	case "steps":
		for _, s := range d.Plan.Steps {
			out = put(out, s.Kind, s.Pane+s.Score.Kind) // one of which is 0
		}
		if d.Trouble != api.OK {
			e = api.ErrNone
		}
	}
	for _, h := range held {
		out = put(out, h.Pane, h.Piece, h.Setting.Shift, h.Setting.Back, h.Colour)
	}
	return out, e
}

package benches_test

import (
	"math/rand"
	"reflect"
	"slices"
	"sync"

	"leadlight/api"
	"leadlight/benches"
)

// square is a valid piece.
func square(id int) api.Piece {
	side := func(n int) api.Span { return api.Span{Lo: n, Hi: n} }
	g := api.Gauge{Edge: side(16), Across: side(32), Bend: 1}
	return api.Piece{ID: id, Colour: 2, Reverse: 3, Made: 1300, Gauges: []api.Gauge{g, g, g, g}, Marks: []api.Mark{{Edge: 1, At: 2, Tone: 3}}}
}

func squares(ids ...int) []api.Piece {
	var out []api.Piece
	for _, id := range ids {
		out = append(out, square(id))
	}
	return out
}

func ref(bench, num int) api.Ref { return api.Ref{Bench: bench, Num: num} }

func refOf(n api.Note) api.Ref { return ref(n.Bench, n.Num) }

// as returns a note with a bench, a number, a clock and a year.
func as(n api.Note, bench, num, clock, year int) api.Note {
	n.Bench, n.Num, n.Clock, n.Year = bench, num, clock, year
	return n
}

// What follows is notes of each kind, without a bench, a number, a clock and a year.

func find(id int) api.Note { return api.Note{Kind: api.NoteFind, Data: squares(id)} }

func record(id int) api.Note {
	s := api.Sight{Pane: -1, Edge: 70, Grey: api.Span{Lo: 9, Hi: -9}}
	x := api.Item{ID: id, Kind: api.ItemPhoto, Year: -5, Film: 1 << 40, Panes: []int{3, 1}, Colours: []int{99}, Sights: []api.Sight{s}}
	return api.Note{Kind: api.NoteRecord, Item: x}
}

func relead(panes ...int) api.Note { return api.Note{Kind: api.NoteRelead, Panes: panes} }

func send(to int, pieces ...int) api.Note {
	return api.Note{Kind: api.NoteSend, To: to, Pieces: pieces}
}

func got(bench, num int) api.Note { return api.Note{Kind: api.NoteGot, Ref: ref(bench, num)} }

func set(pane, piece int, s api.Setting) api.Note {
	return api.Note{Kind: api.NoteSet, Pane: pane, Piece: piece, Setting: s}
}

func setNew(pane, colour int) api.Note {
	return api.Note{Kind: api.NoteSet, Pane: pane, Colour: colour}
}

func take(pane int) api.Note { return api.Note{Kind: api.NoteTake, Pane: pane} }

func breakUp(piece int, into ...int) api.Note {
	return api.Note{Kind: api.NoteBreak, Piece: piece, Data: squares(into...)}
}

func correct(bench, num int, by api.Note) api.Note {
	by.Fix, by.Kind, by.Ref = by.Kind, api.NoteCorrect, ref(bench, num)
	return by
}

func withdraw(bench, num int) api.Note {
	return api.Note{Kind: api.NoteWithdraw, Ref: ref(bench, num)}
}

// story gives notes of one bench their numbers, and the clocks and the years from some on, one after the other.
func story(bench, clock, year int, l ...api.Note) []api.Note {
	var out []api.Note
	for k, n := range l {
		out = append(out, as(n, bench, k+1, clock+k, year+k))
	}
	return out
}

// sameValue reports whether values are equal, if an empty list is the same as none.
func sameValue[T any](a, b T) bool {
	return reflect.DeepEqual(a, b) || reflect.DeepEqual(plain(a), plain(b))
}

func sameList[T any](a, b []T) bool { return sameValue(a, b) }

// plain returns a copy of a value in which empty lists are nil.
func plain[T any](x T) T {
	v := reflect.ValueOf(&x).Elem()
	return plainValue(v).Interface().(T)
}

func plainValue(v reflect.Value) reflect.Value {
	out := reflect.New(v.Type()).Elem()
	switch v.Kind() {
	case reflect.Slice:
		for i := range v.Len() {
			out = reflect.Append(out, plainValue(v.Index(i)))
		}
	case reflect.Struct:
		for i := range v.NumField() {
			out.Field(i).Set(plainValue(v.Field(i)))
		}
	default:
		out.Set(v)
	}
	return out
}

// What follows says anew, from the chapter's tables, what notes amount to.

// numbered returns the numbers of a note that decide an order.
func byYear(n api.Note) []int  { return []int{n.Year, n.Clock, n.Bench, n.Num} }
func byClock(n api.Note) []int { return []int{n.Clock, n.Bench, n.Num} }
func byName(n api.Note) []int  { return []int{n.Bench, n.Num} }

// isFirst reports whether a note is no correction and no withdrawal.
func isFirst(n api.Note) bool { return n.Kind <= api.NoteBreak }

// sorted returns notes in an order.
func sorted(l []api.Note, order func(api.Note) []int) []api.Note {
	out := slices.Clone(l)
	slices.SortFunc(out, func(a, b api.Note) int { return slices.Compare(order(a), order(b)) })
	return out
}

// wantEffective is the rule of Effective.
func wantEffective(l []api.Note) []api.Note {
	var out []api.Note
	judges := slices.DeleteFunc(sorted(l, byClock), isFirst)
	for _, n := range l {
		if !isFirst(n) {
			continue
		}
		counts := []api.Note{n}
		for _, judge := range judges {
			switch {
			case judge.Ref != refOf(n):
			case judge.Kind == api.NoteWithdraw:
				counts = nil
			default:
				c := judge
				c.Bench, c.Num, c.Clock, c.Kind, c.Fix, c.Ref = n.Bench, n.Num, n.Clock, judge.Fix, 0, api.Ref{}
				counts = []api.Note{c}
			}
		}
		out = append(out, counts...)
	}
	return sorted(out, byYear)
}

// log is what notes amount to while they take effect: the pieces and items in the order in which they came, where the pieces are, and the notes that have taken effect.
type log struct {
	pieces  []api.Piece
	where   []api.Where
	glass   []api.Held
	items   []api.Item
	releads []api.Relead
	done    []api.Note
	refused []api.Ref
}

// of returns where a piece is, or nil.
func (g *log) of(piece int) *api.Where {
	for i := range g.where {
		if g.where[i].Piece == piece {
			return &g.where[i]
		}
	}
	return nil
}

// at reports whether a piece is at the bench of a note.
func (g *log) at(piece int, n api.Note) bool {
	w := g.of(piece)
	return w != nil && *w == (api.Where{Piece: piece, Kind: 1, At: n.Bench})
}

// news reports whether none of the pieces of Data is registered.
func (g *log) news(n api.Note) bool {
	for _, p := range n.Data {
		if g.of(p.ID) != nil {
			return false
		}
	}
	return true
}

// in returns the pieces that are in a tray.
func (g *log) in(tray api.Ref) []int {
	var out []int
	for _, w := range g.where {
		if w.Kind == 2 && w.Tray == tray {
			out = append(out, w.Piece)
		}
	}
	return out
}

// under returns the piece in a pane, or 0, and whether the pane holds anything.
func (g *log) under(pane int) (int, bool) {
	for _, w := range g.where {
		if w.Kind == 3 && w.At == pane {
			return w.Piece, true
		}
	}
	return 0, slices.ContainsFunc(g.glass, func(h api.Held) bool { return h.Pane == pane })
}

// meets is the column of conditions of Fold's table.
func (g *log) meets(n api.Note) bool {
	_, full := g.under(n.Pane)
	switch n.Kind {
	case api.NoteFind:
		return g.news(n)
	case api.NoteRecord:
		return !slices.ContainsFunc(g.items, func(x api.Item) bool { return x.ID == n.Item.ID })
	case api.NoteSend:
		return !slices.ContainsFunc(n.Pieces, func(p int) bool { return !g.at(p, n) }) && n.To != n.Bench
	case api.NoteGot:
		sent := func(s api.Note) bool { return refOf(s) == n.Ref && s.Kind == api.NoteSend && s.To == n.Bench }
		return slices.ContainsFunc(g.done, sent) && len(g.in(n.Ref)) > 0
	case api.NoteSet:
		return n.Bench == 1 && !full && (n.Piece == 0 || g.at(n.Piece, n))
	case api.NoteTake:
		return n.Bench == 1 && full
	case api.NoteBreak:
		return g.at(n.Piece, n) && g.news(n)
	}
	return true
}

// enter registers the pieces of Data.
func (g *log) enter(n api.Note) {
	for _, p := range n.Data {
		g.pieces = append(g.pieces, p)
		g.where = append(g.where, api.Where{Piece: p.ID, Kind: 1, At: n.Bench})
	}
}

// affect is the column of effects of Fold's table.
func (g *log) affect(n api.Note) {
	switch n.Kind {
	case api.NoteFind:
		g.enter(n)
	case api.NoteRecord:
		g.items = append(g.items, n.Item)
	case api.NoteRelead:
		g.releads = append(g.releads, api.Relead{Year: n.Year, Panes: n.Panes})
	case api.NoteSend:
		for _, p := range n.Pieces {
			*g.of(p) = api.Where{Piece: p, Kind: 2, Tray: refOf(n)}
		}
	case api.NoteGot:
		for _, p := range g.in(n.Ref) {
			*g.of(p) = api.Where{Piece: p, Kind: 1, At: n.Bench}
		}
	case api.NoteSet:
		if n.Piece > 0 {
			*g.of(n.Piece) = api.Where{Piece: n.Piece, Kind: 3, At: n.Pane, Setting: n.Setting}
		} else {
			g.glass = append(g.glass, api.Held{Pane: n.Pane, Colour: n.Colour})
		}
	case api.NoteTake:
		if p, _ := g.under(n.Pane); p > 0 {
			*g.of(p) = api.Where{Piece: p, Kind: 1, At: 1}
		}
		g.glass = slices.DeleteFunc(g.glass, func(h api.Held) bool { return h.Pane == n.Pane })
	case api.NoteBreak:
		*g.of(n.Piece) = api.Where{Piece: n.Piece, Kind: 4}
		g.enter(n)
	}
}

// take lets a note take effect.
func (g *log) take(n api.Note) {
	if !g.meets(n) {
		g.refused = append(g.refused, refOf(n))
		return
	}
	g.affect(n)
	g.done = append(g.done, n)
}

// register returns the register.
func (g *log) register() api.Register {
	r := api.Register{Pieces: slices.Clone(g.pieces), Where: slices.Clone(g.where), New: slices.Clone(g.glass), Items: slices.Clone(g.items), Releads: g.releads, Conflicts: slices.Clone(g.refused)}
	slices.SortFunc(r.Pieces, func(a, b api.Piece) int { return a.ID - b.ID })
	slices.SortFunc(r.Where, func(a, b api.Where) int { return a.Piece - b.Piece })
	slices.SortFunc(r.New, func(a, b api.Held) int { return a.Pane - b.Pane })
	slices.SortFunc(r.Items, func(a, b api.Item) int { return a.ID - b.ID })
	slices.SortFunc(r.Conflicts, func(a, b api.Ref) int { return slices.Compare([]int{a.Bench, a.Num}, []int{b.Bench, b.Num}) })
	return r
}

// wantAsOf is the rule of AsOf, and with a late year and a late clock that of Fold.
func wantAsOf(l []api.Note, year, clock int) api.Register {
	var known []api.Note
	for _, n := range l {
		if n.Clock <= clock {
			known = append(known, n)
		}
	}
	var g log
	for _, n := range wantEffective(known) {
		if n.Year <= year {
			g.take(n)
		}
	}
	for _, n := range known {
		named := func(m api.Note) bool { return isFirst(m) && refOf(m) == n.Ref }
		if !isFirst(n) && !slices.ContainsFunc(known, named) {
			g.refused = append(g.refused, refOf(n))
		}
	}
	return g.register()
}

// late is later than any year and any clock.
const late = 1 << 30

func wantFold(l []api.Note) api.Register { return wantAsOf(l, late, late) }

// What follows throws notes.

// thrower throws sets of notes of three benches, whose notes are likely to take effect.
type thrower struct{ *rand.Rand }

// id throws an ID that a bench may give.
func (d thrower) id(bench int) int { return bench + 8*d.Intn(6) }

// rising throws up to n numbers.
func (d thrower) rising(n int, throw func() int) []int {
	var out []int
	for range 1 + d.Intn(n) {
		out = append(out, throw())
	}
	slices.Sort(out)
	return slices.Compact(out)
}

func (d thrower) bench() int { return []int{1, 1, 2, 3}[d.Intn(4)] }

// piece throws a piece, mostly one that the notes of a list tell of.
func (d thrower) piece(l []api.Note) int {
	var ids []int
	for _, n := range l {
		for _, p := range n.Data {
			ids = append(ids, p.ID)
		}
	}
	if len(ids) == 0 || d.Intn(8) == 0 {
		return d.id(d.bench())
	}
	return ids[d.Intn(len(ids))]
}

// about throws the name of a note, mostly one of a list that is as it must be.
func (d thrower) about(l []api.Note, must func(api.Note) bool) api.Ref {
	var refs []api.Ref
	for _, n := range l {
		if must(n) {
			refs = append(refs, refOf(n))
		}
	}
	if len(refs) == 0 || d.Intn(8) == 0 {
		return ref(d.bench(), 1+d.Intn(8))
	}
	return refs[d.Intn(len(refs))]
}

// first throws a note of a bench that knows a list of notes, of a kind from NoteFind to NoteBreak.
func (d thrower) first(bench, kind int, l []api.Note) api.Note {
	pane, own := 1+d.Intn(3), func() int { return d.id(bench) }
	switch kind {
	case api.NoteFind:
		return find(own())
	case api.NoteRecord:
		return record(own())
	case api.NoteRelead:
		return relead(pane, pane+1+d.Intn(3))
	case api.NoteSend:
		return send(d.bench(), d.rising(2, func() int { return d.piece(l) })...)
	case api.NoteGot:
		r := d.about(l, func(n api.Note) bool { return n.Kind == api.NoteSend && n.To == bench })
		return got(r.Bench, r.Num)
	case api.NoteSet:
		if d.Intn(3) == 0 {
			return setNew(pane, 1+d.Intn(16))
		}
		return set(pane, d.piece(l), api.Setting{Shift: d.Intn(4), Back: d.Intn(2) == 0})
	case api.NoteTake:
		return take(pane)
	}
	return breakUp(d.piece(l), d.rising(3, own)...)
}

// some throws a note of a bench that knows a list of notes, of a kind from NoteFind to NoteBreak.
func (d thrower) some(bench int, l []api.Note) api.Note { return d.first(bench, 1+d.Intn(8), l) }

// kind throws a kind; those are likely that need others ahead of them.
func (d thrower) kind() int {
	return []int{1, 2, 3, 4, 4, 4, 5, 5, 5, 5, 6, 6, 7, 7, 8, 9, 10}[d.Intn(17)]
}

// note throws a note of a kind. Of NoteCorrect and NoteWithdraw it is mostly about a note of a list.
func (d thrower) note(bench, kind int, l []api.Note) api.Note {
	if kind < api.NoteCorrect {
		return d.first(bench, kind, l)
	}
	about := d.about(l, func(api.Note) bool { return true })
	by := d.some(bench, l)
	if kind == api.NoteWithdraw || by.Kind == api.NoteGot {
		return withdraw(about.Bench, about.Num)
	}
	return correct(about.Bench, about.Num, by)
}

// next throws the next note of a bench that knows a list of notes, and is likely to choose one that takes effect.
func (d thrower) next(bench int, l []api.Note) api.Note {
	num, clock, year := 1, d.Intn(3), d.Intn(12)
	for _, n := range l {
		clock = max(clock, n.Clock+1-d.Intn(3))
		if n.Bench == bench {
			num++
		}
		if d.Intn(3) > 0 {
			year = max(year, n.Year)
		}
	}
	var n api.Note
	for range 8 {
		n = as(d.note(bench, d.kind(), l), bench, num, max(1, clock), year)
		if d.Intn(8) == 0 || !slices.Contains(wantFold(append(slices.Clone(l), n)).Conflicts, refOf(n)) {
			break
		}
	}
	return n
}

// notes throws a set of n notes.
func (d thrower) notes(n int) []api.Note {
	var l []api.Note
	for range n {
		l = append(l, d.next(d.bench(), l))
	}
	return sorted(l, byName)
}

// part throws the notes of a list that somebody knows: a first part of those of each bench.
func (d thrower) part(l []api.Note) []api.Note {
	var out []api.Note
	knows := map[int]int{1: d.Intn(9), 2: d.Intn(9), 3: d.Intn(9)}
	for _, n := range l {
		if n.Num <= knows[n.Bench] {
			out = append(out, n)
		}
	}
	return out
}

// thrown are thrown sets of notes.
var thrown = sync.OnceValue(func() [][]api.Note {
	d := thrower{rand.New(rand.NewSource(9))}
	var out [][]api.Note
	for k := range 1200 {
		out = append(out, d.notes(k%40))
	}
	return out
})

// kinds are the numbers of notes of each kind that take effect, and that are conflicts, in a set.
func kinds(l []api.Note, effects, conflicts map[int]int) {
	r := wantFold(l)
	for _, n := range wantEffective(l) {
		if slices.Contains(r.Conflicts, refOf(n)) {
			conflicts[n.Kind]++
		} else {
			effects[n.Kind]++
		}
	}
}

// isSet reports whether CheckSet takes notes as a set.
func isSet(l []api.Note) bool {
	e, _ := benches.CheckSet(l)
	return e == api.OK
}

package dossier_test

import (
	"slices"
	"testing"

	"leadlight/api"
	"leadlight/benches"
	"leadlight/dossier"
	"leadlight/evidence"
	"leadlight/glass"
	"leadlight/plans"
	"leadlight/web"
)

// TestValidBase checks bases by what a job must be.
func TestValidBase(t *testing.T) {
	if !dossier.ValidBase(pairBase()) {
		t.Error("a valid base")
	}
	if dossier.ValidBase(api.Base{}) || dossier.ValidBase(api.Base{Palette: 1}) {
		t.Error("a base without panes")
	}
	for k, change := range []func(b *api.Base){
		func(b *api.Base) { b.Panel.Web.Leads[6].A = 9 },
		func(b *api.Base) { b.Panel.Web.Leads = b.Panel.Web.Leads[1:] },
		func(b *api.Base) { b.Panel.Open = []int{7} },
		func(b *api.Base) { b.Panel.Open = []int{6, 3} },
		func(b *api.Base) { b.Panel.Pins = nil },
		func(b *api.Base) { b.Panel.Pins[0].Play = 65 },
		func(b *api.Base) { b.Palette = 0 },
		func(b *api.Base) { b.Palette = 17 },
		func(b *api.Base) { b.Films[0].Grey[0] = 256 },
		func(b *api.Base) { b.Films = append(b.Films, b.Films[0]) },
		func(b *api.Base) { b.Sheets[0].W = 0 },
		func(b *api.Base) { b.Sheets = append(b.Sheets, b.Sheets[0]) },
		func(b *api.Base) { b.Bite = -1 },
		func(b *api.Base) { b.Bite = api.MaxBite + 1 },
		func(b *api.Base) { b.Turn = api.MaxPrice + 1 },
		func(b *api.Base) { b.Move = -1 },
		func(b *api.Base) { b.New = -1 },
	} {
		b := pairBase()
		change(&b)
		if dossier.ValidBase(b) {
			t.Error("a base that is not valid", k)
		}
		if j, e := dossier.JobOf(b, api.Register{}, -1); e != api.ErrBase || !sameValue(j, api.Job{}) {
			t.Error("a job of a base that is not valid", k, e)
		}
	}
	large := pairBase()
	large.Panel.Web = strip(13)
	large.Panel.Open, large.Panel.Pins = nil, []api.Pin{{Joint: 1}}
	if !dossier.ValidBase(large) {
		t.Error("a base for which no plan is made is valid all the same")
	}
	if _, e := dossier.JobOf(large, api.Register{}, 1900); e != api.ErrLimit {
		t.Error("the job of a base with too many panes", e)
	}
	if _, e := dossier.JobOf(large, api.Register{}, api.MaxYear+1); e != api.ErrArg {
		t.Error("a year that there is not, of a base with too many panes", e)
	}
}

// strip is the web of n squares in a row.
func strip(n int) api.Web {
	var points []api.Point
	var pairs [][2]int
	for x := range n + 1 {
		points = append(points, at(2*x, 0), at(2*x, 2))
		pairs = append(pairs, [2]int{2*x + 1, 2*x + 2})
		if x > 0 {
			pairs = append(pairs, [2]int{2*x - 1, 2*x + 1}, [2]int{2 * x, 2*x + 2})
		}
	}
	return webOf(points, pairs...)
}

// taken says anew how elements of a list are taken: an element is taken if ok is true of it, while there are fewer than most.
func taken[T any](l []T, most int, ok func(T, []T) bool) []T {
	var out []T
	for _, x := range l {
		if ok(x, out) {
			out = append(out, x)
		}
	}
	return out[:min(len(out), most)]
}

// wantJob is the rule of JobOf for a valid base.
func wantJob(b api.Base, r api.Register, year int) (api.Job, api.Errno) {
	if year < 0 || year > api.MaxYear {
		return api.Job{}, api.ErrArg
	}
	j := api.Job{Year: year, Open: b.Panel.Open, Pins: b.Panel.Pins, Sheets: b.Sheets, Bite: b.Bite, Turn: b.Turn, Move: b.Move, New: b.New}
	j.Case = api.Case{Web: b.Panel.Web, Palette: b.Palette, Films: b.Films}
	j.Case.Pieces = taken(r.Pieces, api.MaxPieces, func(p api.Piece, l []api.Piece) bool {
		at, _ := benches.WhereIs(r, p.ID)
		return glass.ValidPiece(p) && at.Kind != api.Broken && !slices.ContainsFunc(l, func(q api.Piece) bool { return q.ID >= p.ID })
	})
	bare := j.Case
	j.Case.Items = taken(r.Items, api.MaxItems, func(x api.Item, l []api.Item) bool {
		return evidence.ValidItem(bare, x) && !slices.ContainsFunc(l, func(y api.Item) bool { return y.ID >= x.ID })
	})
	j.Case.Releads = taken(r.Releads, api.MaxReleads, func(x api.Relead, _ []api.Relead) bool {
		e, _ := evidence.Check(api.Case{Web: b.Panel.Web, Palette: b.Palette, Releads: []api.Relead{x}})
		return e == api.OK
	})
	panes, _ := web.Panes(b.Panel.Web)
	j.Found = taken(benches.Found(r), api.MaxPanes, func(h api.Held, l []api.Held) bool {
		known := slices.ContainsFunc(j.Case.Pieces, func(p api.Piece) bool { return p.ID == h.Piece })
		used := slices.ContainsFunc(l, func(g api.Held) bool { return g.Piece == h.Piece })
		piece := known && !used && h.Colour == 0 && h.Setting.Shift >= 0 && h.Setting.Shift < api.MaxCorners
		fresh := h.Piece == 0 && h.Colour >= 1 && h.Colour <= b.Palette && h.Setting == api.Setting{}
		return h.Pane >= 1 && h.Pane <= len(panes) && (piece || fresh)
	})
	if e := plans.Check(j); e != api.OK {
		return api.Job{}, e
	}
	return j, api.OK
}

// noise changes a register into one that no set of notes amounts to.
func (d thrower) noise(r api.Register) api.Register {
	r = plain(r)
	for range 1 + d.Intn(4) {
		switch d.Intn(7) {
		case 0:
			p := squarePiece(d.Intn(9) - 1)
			p.Colour = d.Intn(18)
			r.Pieces = slices.Insert(r.Pieces, d.Intn(len(r.Pieces)+1), p)
		case 1:
			x := api.Item{ID: d.Intn(9) - 1, Kind: api.ItemFace, Year: 2, Panes: []int{d.Intn(4)}}
			r.Items = slices.Insert(r.Items, d.Intn(len(r.Items)+1), x)
		case 2:
			r.Releads = slices.Insert(r.Releads, d.Intn(len(r.Releads)+1), api.Relead{Year: d.Intn(4) - 1, Panes: []int{d.Intn(4)}})
		case 3:
			x := api.Where{Piece: d.Intn(9), Kind: d.Intn(6), At: d.Intn(5), Setting: api.Setting{Shift: d.Intn(27) - 1, Back: true}}
			r.Where = slices.Insert(r.Where, d.Intn(len(r.Where)+1), x)
		case 4:
			h := api.Held{Pane: d.Intn(6), Piece: d.Intn(9) * d.Intn(2), Colour: d.Intn(5), Setting: api.Setting{Shift: d.Intn(2)}}
			r.New = slices.Insert(r.New, d.Intn(len(r.New)+1), h)
		case 5:
			if len(r.Where) > 0 {
				r.Where[d.Intn(len(r.Where))].Kind = api.Broken
			}
		case 6:
			if len(r.Pieces) > 1 {
				r.Pieces[0], r.Pieces[1] = r.Pieces[1], r.Pieces[0]
			}
		}
	}
	return r
}

// TestJobOf checks jobs of registers that notes amount to, and of any other ones.
func TestJobOf(t *testing.T) {
	t.Parallel()
	d := throw(11)
	good, found, lost := 0, 0, 0
	for k := range 1200 {
		b := d.base()
		r := d.register(b)
		if k%4 > 0 {
			r = d.noise(r)
		}
		year := []int{d.Intn(4), d.Intn(4), 1900, api.MaxYear, api.MaxYear + 1, -1}[d.Intn(6)]
		got, e := dossier.JobOf(b, r, year)
		want, f := wantJob(b, r, year)
		if e != f || !sameValue(got, want) {
			t.Fatal("JobOf", b, r, year, got, e, want, f)
		}
		if e == api.OK {
			good++
			found += len(got.Found)
			lost += len(r.Pieces) + len(r.Items) - len(got.Case.Pieces) - len(got.Case.Items)
		}
	}
	if good < 600 || found < 600 || lost < 200 {
		t.Error("few jobs", good, found, lost)
	}
}

// TestJobLimits checks that no more is taken than a case can have.
func TestJobLimits(t *testing.T) {
	b := pairBase()
	b.Palette = 1
	var r api.Register
	for id := 1; id <= api.MaxPieces+3; id++ {
		p := squarePiece(id)
		p.Made = 2000 // so the panes have few options
		r.Pieces = append(r.Pieces, p)
		r.Items = append(r.Items, api.Item{ID: id, Kind: api.ItemFace, Panes: []int{1}})
		r.Releads = append(r.Releads, api.Relead{Year: id, Panes: []int{2}})
	}
	r.Pieces[1].ID = 1                                              // which is there
	r.Items[2].Panes = nil                                          // which is not valid
	r.Releads[3].Panes = []int{3}                                   // which there is not
	r.Where = []api.Where{{Piece: 7, Kind: api.Broken}, {Piece: 7}} // the first one tells
	r.Where = append(r.Where, api.Where{Piece: 3, Kind: api.InPane, At: 1}, api.Where{Piece: 67, Kind: api.InPane, At: 2})
	j, e := dossier.JobOf(b, r, 1900)
	if e != api.OK || len(j.Case.Pieces) != api.MaxPieces || len(j.Case.Items) != api.MaxItems || len(j.Case.Releads) != api.MaxReleads {
		t.Fatal("limits", len(j.Case.Pieces), len(j.Case.Items), len(j.Case.Releads), e)
	}
	if j.Case.Pieces[1].ID != 3 || j.Case.Pieces[5].ID != 8 || j.Case.Pieces[63].ID != 66 || j.Case.Items[15].ID != 17 || j.Case.Releads[63].Year != 65 {
		t.Error("the first ones", j.Case.Pieces[63].ID, j.Case.Items[15].ID, j.Case.Releads[63].Year)
	}
	if len(j.Found) != 1 || j.Found[0] != (api.Held{Pane: 1, Piece: 3}) {
		t.Error("found", j.Found)
	}
}

// TestFound checks what can have been found.
func TestFound(t *testing.T) {
	for _, x := range []struct {
		where api.Where
		fresh api.Held
		want  []api.Held
	}{
		{api.Where{Kind: api.InPane, At: 2, Setting: api.Setting{Shift: 23, Back: true}}, api.Held{Pane: 1, Colour: 2}, []api.Held{{Pane: 1, Colour: 2}, {Pane: 2, Piece: 9, Setting: api.Setting{Shift: 23, Back: true}}}},
		{api.Where{Kind: api.InPane, At: 2, Setting: api.Setting{Shift: 24}}, api.Held{Pane: 1, Colour: 3}, nil},
		{api.Where{Kind: api.InPane, At: 2, Setting: api.Setting{Shift: -1}}, api.Held{Pane: 1}, nil},
		{api.Where{Kind: api.InPane, At: 3}, api.Held{Pane: 0, Colour: 1}, nil},
		{api.Where{Kind: api.InPane, At: 0}, api.Held{Pane: 3, Colour: 1}, nil},
		{api.Where{Kind: api.AtBench, At: 1}, api.Held{Pane: 1, Colour: 1, Setting: api.Setting{Back: true}}, nil},
		{api.Where{Kind: api.Broken}, api.Held{Pane: 1, Piece: 9}, nil},
		{api.Where{Kind: api.AtBench, At: 1}, api.Held{Pane: 1, Piece: 9}, []api.Held{{Pane: 1, Piece: 9}}},
		{api.Where{Kind: api.AtBench, At: 1}, api.Held{Pane: 1, Piece: 9, Colour: 1}, nil},
		{api.Where{Kind: api.InPane, At: 1}, api.Held{Pane: 2, Piece: 9}, []api.Held{{Pane: 1, Piece: 9}}},
		{api.Where{Kind: api.InPane, At: 2}, api.Held{Pane: 1, Piece: 9}, []api.Held{{Pane: 1, Piece: 9}}},
	} {
		x.where.Piece = 9
		j, e := dossier.JobOf(pairBase(), api.Register{Pieces: []api.Piece{squarePiece(9)}, Where: []api.Where{x.where}, New: []api.Held{x.fresh}}, 1900)
		if e != api.OK || !slices.Equal(j.Found, x.want) {
			t.Error("Found", x, j.Found, e)
		}
	}
}

// TestJobMemory checks that a job is new memory, and that nothing else changes (R7).
func TestJobMemory(t *testing.T) {
	d := throw(12)
	for range 100 {
		b := d.base()
		r := d.register(b)
		keptBase, keptRegister := plain(b), plain(r)
		j, e := dossier.JobOf(b, r, 2)
		kept := plain(j)
		spoil(j)
		if !sameValue(b, keptBase) || !sameValue(r, keptRegister) {
			t.Fatal("a job shares memory with its base or its register", b, r)
		}
		again, f := dossier.JobOf(b, r, 2)
		spoil(b)
		spoil(r)
		if e != f || !sameValue(again, kept) {
			t.Fatal("a job keeps its base or its register", again, kept)
		}
	}
}

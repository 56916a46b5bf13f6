package dossier_test

import (
	"math"
	"math/rand"
	"reflect"
	"slices"
	"sync"
	"testing"

	"leadlight/api"
	"leadlight/dossier"
	"leadlight/evidence"
	"leadlight/glass"
	"leadlight/places"
	"leadlight/plans"
	"leadlight/web"
)

// at is a point, and only the span of one number.
func at(x, y int) api.Point { return api.Point{X: x, Y: y} }
func only(n int) api.Span   { return api.Span{Lo: n, Hi: n} }

// webOf returns the web of the joints 1, 2, .. at points, and of the leads 1, 2, .. between pairs of them.
func webOf(points []api.Point, pairs ...[2]int) api.Web {
	var w api.Web
	for k, p := range points {
		w.Joints = append(w.Joints, api.Joint{ID: k + 1, At: p})
	}
	for k, p := range pairs {
		w.Leads = append(w.Leads, api.Lead{ID: k + 1, A: p[0], B: p[1], Left: 2, Right: 2, Give: 1, Cost: 3})
	}
	return w
}

// squareWeb has one pane, pairWeb two squares beside one another, crossWeb four triangles in a square, rowWeb three squares in a row, and exampleWeb is the web of the examples of layer 2.
func squareWeb() api.Web {
	return webOf([]api.Point{at(0, 0), at(4, 0), at(4, 4), at(0, 4)}, [2]int{1, 2}, [2]int{2, 3}, [2]int{3, 4}, [2]int{4, 1})
}

func pairWeb() api.Web {
	return webOf([]api.Point{at(0, 0), at(4, 0), at(8, 0), at(8, 4), at(4, 4), at(0, 4)},
		[2]int{1, 2}, [2]int{2, 3}, [2]int{3, 4}, [2]int{4, 5}, [2]int{5, 6}, [2]int{6, 1}, [2]int{2, 5})
}

func crossWeb() api.Web {
	return webOf([]api.Point{at(0, 0), at(4, 0), at(4, 4), at(0, 4), at(2, 2)},
		[2]int{1, 2}, [2]int{2, 3}, [2]int{3, 4}, [2]int{4, 1}, [2]int{1, 5}, [2]int{2, 5}, [2]int{3, 5}, [2]int{4, 5})
}

func rowWeb() api.Web {
	return webOf([]api.Point{at(0, 0), at(4, 0), at(8, 0), at(12, 0), at(12, 4), at(8, 4), at(4, 4), at(0, 4)},
		[2]int{1, 2}, [2]int{2, 3}, [2]int{3, 4}, [2]int{4, 5}, [2]int{5, 6}, [2]int{6, 7}, [2]int{7, 8}, [2]int{8, 1}, [2]int{2, 7}, [2]int{3, 6})
}

func exampleWeb() api.Web {
	return webOf([]api.Point{at(0, 0), at(4, 0), at(4, 4), at(0, 4), at(4, 2)},
		[2]int{1, 2}, [2]int{2, 5}, [2]int{5, 3}, [2]int{3, 4}, [2]int{4, 1}, [2]int{1, 5})
}

func knownWebs() []api.Web {
	return []api.Web{squareWeb(), pairWeb(), crossWeb(), rowWeb(), exampleWeb()}
}

// pairBase is a base with two square panes, of which the left one is free over the lead 6, and the right one over the lead 3.
func pairBase() api.Base {
	panel := api.Panel{Web: pairWeb(), Open: []int{3, 6}, Pins: []api.Pin{{Joint: 1, Play: 1}}}
	return api.Base{Panel: panel, Palette: 2, Films: []api.Film{{ID: 1, Grey: []int{10, 200}}}, Sheets: []api.Sheet{{ID: 1, Colour: 1, W: 4, H: 4}}, Bite: 1, Turn: 1, Move: 2, New: 5}
}

// squarePiece is a piece that fits a square pane.
func squarePiece(id int) api.Piece {
	g, _ := glass.Gauges([]api.Point{at(0, 0), at(4, 0), at(4, 4), at(0, 4)})
	return api.Piece{ID: id, Colour: 1, Reverse: 2, Made: 1300, Gauges: g}
}

// thrower throws samples.
type thrower struct{ *rand.Rand }

func throw(seed int64) thrower { return thrower{rand.New(rand.NewSource(seed))} }

// part returns some of the numbers 1 to n.
func (d thrower) part(n int) []int {
	var out []int
	for k := range n {
		if d.Intn(2) == 0 {
			out = append(out, k+1)
		}
	}
	return out
}

// some is a part that is not empty.
func (d thrower) some(n int) []int {
	l := d.part(n)
	if len(l) == 0 {
		return []int{1 + d.Intn(n)}
	}
	return l
}

// piece throws a piece that fits one of the panes, as it is known, more or less well.
func (d thrower) piece(id int, panes []api.Pane) api.Piece {
	g, _ := glass.Gauges(panes[d.Intn(len(panes))].Outline)
	g, _ = glass.Widen(g, []int{0, 0, 0, 1, 5}[d.Intn(5)])
	p := api.Piece{ID: id, Colour: 1 + d.Intn(2), Reverse: 1 + d.Intn(3), Made: d.Intn(2), Swell: []int{-3, -1, 0, 0, 0, 0, 1, 9}[d.Intn(8)], Gauges: g}
	if d.Intn(3) == 0 {
		p.Marks = []api.Mark{{Edge: d.Intn(len(g)), At: d.Intn(17), Tone: 1}}
	}
	p, _ = glass.Reset(p, api.Setting{Shift: d.Intn(len(g)), Back: d.Intn(2) == 0})
	return p
}

// item throws an item of any kind.
func (d thrower) item(id int, w api.Web, pieces []api.Piece) api.Item {
	panes, _ := web.Panes(w)
	n := len(panes)
	lo := d.Intn(2)
	x := api.Item{ID: id, Kind: 1 + d.Intn(7), Year: d.Intn(4)}
	if x.Kind == api.ItemKept && len(pieces) == 0 {
		x.Kind = api.ItemSurvivors
	}
	switch x.Kind {
	case api.ItemPhoto:
		x.Film, x.Sights = 1, []api.Sight{{Pane: 1 + d.Intn(n), Grey: api.Span{Lo: 0, Hi: []int{50, 255}[d.Intn(2)]}}}
	case api.ItemRubbing:
		x.Sights = []api.Sight{{Pane: 1 + d.Intn(n), Edge: d.Intn(3), At: api.Span{Lo: 0, Hi: 16}, Count: api.Span{Lo: lo, Hi: lo + d.Intn(2)}}}
	case api.ItemInventory:
		x.Panes, x.Colours, x.Count = d.some(n), d.some(2), api.Span{Lo: lo, Hi: lo + d.Intn(n)}
	case api.ItemKept:
		x.Piece, x.Panes = pieces[d.Intn(len(pieces))].ID, d.part(n)
	case api.ItemPaint:
		x.Lead, x.Slack = w.Leads[d.Intn(len(w.Leads))].ID, d.Intn(17)
	case api.ItemSurvivors:
		x.Panes, x.Count = d.some(n), api.Span{Lo: lo, Hi: lo + d.Intn(n)}
	case api.ItemFace:
		x.Panes = d.some(n)
	}
	return x
}

// frameOf returns the frame leads of a sound web of one component, and its frame joints.
func frameOf(w api.Web) (leads, joints []int) {
	for _, l := range w.Leads {
		left, _ := web.PaneAt(w, api.Side{Lead: l.ID})
		right, _ := web.PaneAt(w, api.Side{Lead: l.ID, Back: true})
		if left == 0 || right == 0 {
			leads = append(leads, l.ID)
			joints = append(joints, l.A, l.B)
		}
	}
	slices.Sort(joints)
	return leads, slices.Compact(joints)
}

// base throws a valid base.
func (d thrower) base() api.Base {
	w := knownWebs()[d.Intn(5)]
	stiff := d.Intn(6) == 0
	for k := range w.Leads {
		l := &w.Leads[k]
		l.Give, l.Cost = []int{0, 1, 1, 1, 2, 3}[d.Intn(6)], []int{0, 1, 2, 5, 10}[d.Intn(5)]
		l.Left, l.Right = []int{2, 2, 2, 4, 0}[d.Intn(5)], []int{2, 2, 2, 4, 0}[d.Intn(5)]
		if d.Intn(2) == 0 {
			l.A, l.B = l.B, l.A
		}
		if stiff {
			l.Give = 0
		}
	}
	b := api.Base{Panel: api.Panel{Web: w}, Palette: 1 + d.Intn(2), Bite: d.Intn(3), Turn: d.Intn(4), Move: d.Intn(6), New: d.Intn(9)}
	leads, joints := frameOf(w)
	often := 1 + d.Intn(3)
	for _, l := range leads {
		if d.Intn(4) < often {
			b.Panel.Open = append(b.Panel.Open, l)
		}
	}
	for _, j := range joints {
		if d.Intn(3) == 0 || j == joints[len(joints)-1] && len(b.Panel.Pins) == 0 {
			b.Panel.Pins = append(b.Panel.Pins, api.Pin{Joint: j, Play: d.Intn(2)})
		}
	}
	b.Films = []api.Film{{ID: 1, Grey: []int{d.Intn(100), d.Intn(100), 30}}}[:1]
	for k := range d.Intn(5) {
		b.Sheets = append(b.Sheets, api.Sheet{ID: 3*k + 1, Colour: 1 + d.Intn(2), W: 2 + d.Intn(8), H: 2 + d.Intn(8), Grain: d.Intn(3)})
	}
	return b
}

// register throws a register that goes with a base.
func (d thrower) register(b api.Base) api.Register {
	panes, _ := web.Panes(b.Panel.Web)
	var r api.Register
	for k := range d.Intn(4) {
		r.Pieces = append(r.Pieces, d.piece(2*k+1, panes))
	}
	free := d.Perm(len(panes))
	for _, p := range r.Pieces {
		x := api.Where{Piece: p.ID, Kind: api.AtBench, At: 1}
		if d.Intn(3) > 0 && len(free) > 0 {
			x.Kind, x.At, x.Setting = api.InPane, free[0]+1, api.Setting{Shift: d.Intn(4), Back: d.Intn(3) == 0}
			free = free[1:]
		}
		r.Where = append(r.Where, x)
	}
	for _, pane := range free {
		if d.Intn(4) > 0 {
			r.New = append(r.New, api.Held{Pane: pane + 1, Colour: 1 + d.Intn(b.Palette)})
		}
	}
	for k := range d.Intn(7) {
		r.Items = append(r.Items, d.item(k+1, b.Panel.Web, r.Pieces))
	}
	for range d.Intn(3) {
		r.Releads = append(r.Releads, api.Relead{Year: d.Intn(4), Panes: d.some(len(panes))})
	}
	return r
}

// job throws a job that plans.Check accepts, with at most so many fillings.
func (d thrower) job(most int) api.Job {
	for {
		b := d.base()
		j, e := dossier.JobOf(b, d.register(b), d.Intn(4))
		if e != api.OK {
			continue
		}
		if n, _ := evidence.Space(j.Case, j.Year); n <= most {
			return j
		}
	}
}

// example is a job in which the piece 9 lies in the left one of two panes, but was in the right one.
func example() api.Job {
	r := api.Register{Pieces: []api.Piece{squarePiece(9)}, Where: []api.Where{{Piece: 9, Kind: api.InPane, At: 1}}}
	r.Items = []api.Item{{ID: 2, Kind: api.ItemKept, Year: 1900, Piece: 9, Panes: []int{2}}}
	j, _ := dossier.JobOf(pairBase(), r, 1900)
	return j
}

// clashing is a job of which no filling agrees.
func clashing() api.Job {
	j := example()
	j.Case.Items = append(j.Case.Items, api.Item{ID: 3, Kind: api.ItemFace, Year: 1900, Panes: []int{1}}, api.Item{ID: 4, Kind: api.ItemKept, Year: 1900, Piece: 9, Panes: []int{1}})
	return j
}

// samples are jobs of all kinds.
var samples = sync.OnceValue(func() []api.Job {
	out := []api.Job{example(), clashing()}
	d := throw(10)
	for range 150 {
		out = append(out, d.job(200))
	}
	return out
})

// built are the dossiers of the samples.
var built = sync.OnceValue(func() []api.Dossier {
	var out []api.Dossier
	for _, j := range samples() {
		d, _ := dossier.Build(j)
		out = append(out, d)
	}
	return out
})

// build is Build without an error.
func build(t *testing.T, j api.Job) api.Dossier {
	t.Helper()
	d, e := dossier.Build(j)
	if e != api.OK {
		t.Fatal("Build", j, e)
	}
	return d
}

// problemOf is the problem of a job.
func problemOf(j api.Job) api.Problem {
	p, _ := evidence.Compile(j.Case, j.Year)
	return p
}

// agreeing returns all fillings that agree, in order.
func agreeing(p api.Problem) [][]int {
	var out [][]int
	f, e := places.First(p)
	for e == api.OK {
		out = append(out, f)
		f, e = places.Next(p, f)
	}
	return out
}

// optionsOf returns the options of a filling.
func optionsOf(p api.Problem, f []int) []api.Option {
	var out []api.Option
	for i, k := range f {
		out = append(out, p.Options[i][k])
	}
	return out
}

// itemsOf returns the items of the rules of a problem.
func itemsOf(p api.Problem) []int {
	var out []int
	for _, r := range p.Rules {
		if !slices.Contains(out, r.Item) {
			out = append(out, r.Item)
		}
	}
	return out
}

// setsOf returns all sets of the items of a problem.
func setsOf(p api.Problem) [][]int {
	out := [][]int{nil}
	for _, item := range itemsOf(p) {
		for _, s := range slices.Clone(out) {
			out = append(out, append(slices.Clone(s), item))
		}
	}
	return out
}

// verdict is plans.Judge.
func verdict(j api.Job, p api.Problem, f []int) api.Errno {
	e, _ := plans.Judge(j, optionsOf(p, f))
	return e
}

// extremes are the ends of the numbers.
func extremes() []int { return []int{math.MinInt, math.MinInt + 1, -1, math.MaxInt - 1, math.MaxInt} }

// sameValue reports whether values are equal, if an empty list is the same as none.
func sameValue[T any](a, b T) bool { return reflect.DeepEqual(plain(a), plain(b)) }

// plain returns a copy of a value that shares no memory with it, and in which empty lists are nil.
func plain[T any](x T) T {
	return plainValue(reflect.ValueOf(&x).Elem()).Interface().(T)
}

func plainValue(v reflect.Value) reflect.Value {
	out := reflect.New(v.Type()).Elem()
	switch v.Kind() {
	case reflect.Slice:
		for i := range v.Len() {
			out = reflect.Append(out, plainValue(v.Index(i)))
		}
	case reflect.Struct:
		for i := range v.NumField() {
			out.Field(i).Set(plainValue(v.Field(i)))
		}
	default:
		out.Set(v)
	}
	return out
}

// spoil changes all that the lists of a value hold.
func spoil(x any) { spoilValue(reflect.ValueOf(x)) }

func spoilValue(v reflect.Value) {
	switch v.Kind() {
	case reflect.Slice:
		for i := range v.Len() {
			spoilValue(v.Index(i))
			if e := v.Index(i); e.CanInt() {
				e.SetInt(e.Int() ^ 77)
			} else if e.CanUint() {
				e.SetUint(e.Uint() ^ 77)
			} else {
				e.SetZero()
			}
		}
	case reflect.Struct:
		for i := range v.NumField() {
			spoilValue(v.Field(i))
		}
	}
}

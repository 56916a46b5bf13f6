package places_test

import (
	"math/rand"
	"slices"
	"testing"

	"leadlight/api"
	"leadlight/evidence"
	"leadlight/glass"
	"leadlight/places"
)

// window is a case of three panes of one outline, in which two pieces fit by one setting each.
func window() api.Case {
	c := api.Case{Palette: 2}
	corners := []api.Point{{}, {X: 4}, {Y: 2}}
	for pane := range 3 {
		for k, p := range corners {
			id := 3*pane + k + 1
			c.Web.Joints = append(c.Web.Joints, api.Joint{ID: id, At: api.Point{X: p.X + 6*pane, Y: p.Y}})
			c.Web.Leads = append(c.Web.Leads, api.Lead{ID: id, A: id, B: 3*pane + (k+1)%3 + 1, Left: 2, Right: 2})
		}
	}
	gauges, _ := glass.Gauges(corners)
	for id := 1; id <= 2; id++ {
		c.Pieces = append(c.Pieces, api.Piece{ID: id, Colour: id, Reverse: 1, Made: 2 * id, Gauges: gauges})
	}
	return c
}

// somePanes throws some of the three panes, at least one.
func somePanes(d *rand.Rand) []int {
	panes := d.Perm(3)[:1+d.Intn(3)]
	for k := range panes {
		panes[k]++
	}
	slices.Sort(panes)
	return panes
}

// thrownItem throws an item.
func thrownItem(d *rand.Rand, id int) api.Item {
	x := api.Item{ID: id, Year: d.Intn(9), Panes: somePanes(d)}
	lo := d.Intn(3)
	switch d.Intn(3) {
	case 0:
		x.Kind, x.Count, x.Colours = api.ItemInventory, span(lo, lo+d.Intn(2)), []int{1 + d.Intn(2)}
	case 1:
		x.Kind, x.Piece = api.ItemKept, 1+d.Intn(2)
	case 2:
		x.Kind, x.Count = api.ItemSurvivors, span(lo, lo+d.Intn(2))
	}
	return x
}

func thrownRelead(d *rand.Rand) api.Relead {
	return api.Relead{Year: d.Intn(9), Panes: somePanes(d)}
}

// thrownCase throws a case with some items and releadings.
func thrownCase(d *rand.Rand) api.Case {
	c := window()
	for k := range d.Intn(5) {
		c.Items = append(c.Items, thrownItem(d, k+1))
	}
	for range d.Intn(3) {
		c.Releads = append(c.Releads, thrownRelead(d))
	}
	return c
}

// told returns all fillings of a case in a year that use no piece twice and of which all is true that the items say that speak.
func told(t *testing.T, c api.Case, year int) [][]api.Option {
	t.Helper()
	p := compiled(t, c, year)
	spoken, _ := evidence.Spoken(c, year)
	var out [][]api.Option
	for _, f := range (sample{p}).fillings() {
		l, _ := evidence.Chosen(c, year, f)
		lies := func(item int) bool {
			obeys, e := evidence.Obeys(c, item, year, l)
			return !obeys || e != api.OK
		}
		if (sample{p}).sound(f) && !slices.ContainsFunc(spoken, lies) {
			out = append(out, l)
		}
	}
	return out
}

func compiled(t *testing.T, c api.Case, year int) api.Problem {
	t.Helper()
	p, e := evidence.Compile(c, year)
	if e != api.OK || !places.Valid(p) {
		t.Fatal(c, year, e)
	}
	return p
}

// TestOnlyPlaces is P0.6: the places told of a piece are those that it has where all evidence agrees, with a witness; and no smaller set of items clashes.
func TestOnlyPlaces(t *testing.T) {
	d := rand.New(rand.NewSource(6))
	clashes := 0
	for range 60 {
		c := thrownCase(d)
		for _, year := range []int{0, 3, 8} {
			p, agreeing := compiled(t, c, year), told(t, c, year)
			for piece := 1; piece <= 2; piece++ {
				var want []int
				for i := range 3 {
					if slices.ContainsFunc(agreeing, func(l []api.Option) bool { return l[i].Piece == piece }) {
						want = append(want, i+1)
					}
				}
				without := slices.ContainsFunc(agreeing, func(l []api.Option) bool {
					return !slices.ContainsFunc(l, func(o api.Option) bool { return o.Piece == piece })
				})
				panes, nowhere, e := places.Where(p, piece)
				if !slices.Equal(panes, want) || nowhere != without || e != api.OK {
					t.Fatal(c, year, piece, panes, nowhere, e)
				}
			}
			checkWitnesses(t, c, year, agreeing)
			if set, e := places.Clash(p); e == api.OK {
				checkClash(t, c, year, set)
				clashes++
			} else if len(agreeing) == 0 {
				t.Fatal(c, year, e)
			}
		}
	}
	if clashes < 20 {
		t.Error("few", clashes)
	}
}

// checkWitnesses checks that an option has a witness just if one of the fillings that agree has it, and that it is one.
func checkWitnesses(t *testing.T, c api.Case, year int, agreeing [][]api.Option) {
	t.Helper()
	p := compiled(t, c, year)
	for _, at := range (sample{p}).everyChoice() {
		has := func(l []api.Option) bool { return l[at[0]] == p.Options[at[0]][at[1]] }
		f, e := places.Witness(p, at[0], at[1])
		if e == api.ErrNone && !slices.ContainsFunc(agreeing, has) {
			continue
		}
		l, _ := evidence.Chosen(c, year, f)
		if e != api.OK || !has(l) || !slices.ContainsFunc(agreeing, func(m []api.Option) bool { return slices.Equal(l, m) }) {
			t.Fatal(c, year, at, f, e)
		}
	}
}

// checkClash checks that nothing agrees with a set of items, and something with each smaller one.
func checkClash(t *testing.T, c api.Case, year int, set []int) {
	t.Helper()
	items := c.Items
	for bits := range 1 << len(items) {
		c.Items = nil
		var some []int
		for k, x := range items {
			if bits>>k&1 == 1 {
				c.Items, some = append(c.Items, x), append(some, x.ID)
			}
		}
		agreeing := len(told(t, c, year))
		if slices.Equal(some, set) && agreeing > 0 || len(some) < len(set) && agreeing == 0 {
			t.Fatal(c, year, set, some)
		}
	}
}

// TestMoreEvidence is P0.5: more items never add a filling that agrees, more releadings never take one away, and an item that is silent says nothing.
func TestMoreEvidence(t *testing.T) {
	d := rand.New(rand.NewSource(5))
	var fewer, more, silent int
	for range 150 {
		c := thrownCase(d)
		longer, releaded := c, c
		longer.Items = append(slices.Clone(c.Items), thrownItem(d, 9))
		releaded.Releads = append(slices.Clone(c.Releads), thrownRelead(d))
		for _, year := range []int{0, 3, 8} {
			p, q, r := compiled(t, c, year), compiled(t, longer, year), compiled(t, releaded, year)
			if speaks, _ := evidence.Speaks(longer, 9, year); !speaks {
				silent++
				if !sameProblem(p, q) {
					t.Fatal("silent", longer, year)
				}
			}
			for _, f := range (sample{p}).fillings() {
				given, e1 := places.Agrees(p, f)
				withItem, e2 := places.Agrees(q, f)
				withRelead, e3 := places.Agrees(r, f)
				if !given && withItem || given && !withRelead || e1 != api.OK || e2 != api.OK || e3 != api.OK {
					t.Fatal(c, year, f)
				}
				if given != withItem {
					fewer++
				}
				if given != withRelead {
					more++
				}
			}
		}
	}
	if fewer < 500 || more < 100 || silent < 50 {
		t.Error("few", fewer, more, silent)
	}
}

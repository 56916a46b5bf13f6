package evidence_test

import (
	"slices"
	"testing"

	"leadlight/api"
	"leadlight/evidence"
)

// fullItems are a valid item of each kind for the case full, by their kinds.
func fullItems() []api.Item {
	return []api.Item{
		{ID: 10, Kind: api.ItemPhoto, Year: 1900, Film: 2, Sights: []api.Sight{{Pane: 2, Grey: span(20, 255)}, {Pane: 1, Grey: span(0, 30)}}},
		{ID: 20, Kind: api.ItemRubbing, Year: 1860, Sights: []api.Sight{{Pane: 2, Edge: 3, At: span(0, 16), Count: span(0, 32)}, {Pane: 1, Edge: 2}}},
		{ID: 30, Kind: api.ItemInventory, Year: 1850, Panes: []int{1, 2}, Colours: []int{1, 16}, Count: span(1, 64)},
		{ID: 40, Kind: api.ItemKept, Year: 0, Piece: 3, Panes: []int{2}},
		{ID: 50, Kind: api.ItemPaint, Year: 9999, Lead: 6, Slack: 2},
		{ID: 60, Kind: api.ItemSurvivors, Year: 1400, Panes: []int{1}, Count: span(0, 1)},
		{ID: 70, Kind: api.ItemFace, Year: 1400, Panes: []int{1, 2}},
	}
}

// full is a valid case with something of everything.
func full() api.Case {
	c := example()
	second := c.Pieces[0]
	second.ID, second.Marks = 3, nil
	c.Pieces = append(c.Pieces, second)
	c.Films = []api.Film{{ID: 2, Grey: []int{10, 200}}, {ID: 5, Grey: []int{0}}}
	c.Items = fullItems()
	c.Releads = []api.Relead{relead(1800, 2), relead(0, 1, 2), relead(9999, 1)}
	return c
}

// wrongCase is a case that is not valid, with what Check returns.
type wrongCase struct {
	name   string
	change func(c *api.Case)
	e      api.Errno
	at     int
}

// wrongCases are changes by which the case full is not valid, in the order of their errors.
func wrongCases() []wrongCase {
	out := []wrongCase{
		{"no web", func(c *api.Case) { c.Web = api.Web{} }, api.ErrWeb, 0},
		{"leads cross", func(c *api.Case) { c.Web.Leads = append(c.Web.Leads, api.Lead{ID: 7, A: 2, B: 4}) }, api.ErrWeb, 0},
		{"joint apart", func(c *api.Case) { c.Web.Joints = append(c.Web.Joints, api.Joint{ID: 6, At: at(9, 9)}) }, api.ErrWeb, 0},
		{"flange", func(c *api.Case) { c.Web.Leads[0].Left = 65 }, api.ErrWeb, 0},
		{"too many panes", func(c *api.Case) { c.Web = lattice(13, 5) }, api.ErrWeb, 0},
	}
	for _, n := range append(extremes(), -1, 0, 17) {
		out = append(out, wrongCase{"palette", func(c *api.Case) { c.Palette = n }, api.ErrPalette, 0})
	}
	for _, id := range append(extremes(), -1, 0, 65536) {
		out = append(out,
			wrongCase{"piece's ID", func(c *api.Case) { c.Pieces[1].ID = id }, api.ErrPieces, id},
			wrongCase{"film's ID", func(c *api.Case) { c.Films[0].ID = id }, api.ErrFilms, id},
			wrongCase{"item's ID", func(c *api.Case) { c.Items[6].ID = id }, api.ErrItem, id})
	}
	out = append(out,
		wrongCase{"first piece", func(c *api.Case) { c.Pieces[0].Colour = 0 }, api.ErrPieces, 1},
		wrongCase{"second piece", func(c *api.Case) { c.Pieces[1].Made = 10000 }, api.ErrPieces, 3},
		wrongCase{"equal pieces", func(c *api.Case) { c.Pieces[1].ID = 1 }, api.ErrPieces, 1},
		wrongCase{"pieces fall", func(c *api.Case) { c.Pieces[0].ID = 4 }, api.ErrPieces, 3},
		wrongCase{"too many pieces", func(c *api.Case) { c.Pieces = manyPieces(65) }, api.ErrPieces, 0},
		wrongCase{"far too many pieces", func(c *api.Case) { c.Pieces = append(c.Pieces, make([]api.Piece, 1000)...) }, api.ErrPieces, 0},
		wrongCase{"first film", func(c *api.Case) { c.Films[0].Grey = nil }, api.ErrFilms, 2},
		wrongCase{"second film", func(c *api.Case) { c.Films[1].Grey = []int{256} }, api.ErrFilms, 5},
		wrongCase{"equal films", func(c *api.Case) { c.Films[1].ID = 2 }, api.ErrFilms, 2},
		wrongCase{"films fall", func(c *api.Case) { c.Films[0].ID = 6 }, api.ErrFilms, 5},
		wrongCase{"too many films", func(c *api.Case) { c.Films = manyFilms(17) }, api.ErrFilms, 0},
		wrongCase{"first item", func(c *api.Case) { c.Items[0].Year = 10000 }, api.ErrItem, 10},
		wrongCase{"last item", func(c *api.Case) { c.Items[6].Panes = nil }, api.ErrItem, 70},
		wrongCase{"equal items", func(c *api.Case) { c.Items[3].ID = 30 }, api.ErrItem, 30},
		wrongCase{"items fall", func(c *api.Case) { c.Items[3].ID = 51 }, api.ErrItem, 50},
		wrongCase{"no film", func(c *api.Case) { c.Items[0].Film = 3 }, api.ErrItem, 10},
		wrongCase{"no piece", func(c *api.Case) { c.Items[3].Piece = 2 }, api.ErrItem, 40},
		wrongCase{"too many items", func(c *api.Case) { c.Items = manyItems(17) }, api.ErrItem, 0})
	return append(out, wrongReleads()...)
}

// wrongReleads are changes by which the releadings of the case full are not valid.
func wrongReleads() []wrongCase {
	var out []wrongCase
	for _, year := range append(extremes(), -1, 10000) {
		out = append(out, wrongCase{"year", func(c *api.Case) { c.Releads[1].Year = year }, api.ErrRelead, 1})
	}
	for _, panes := range wrongPanes() {
		out = append(out, wrongCase{"panes", func(c *api.Case) { c.Releads[2].Panes = panes }, api.ErrRelead, 2})
	}
	return append(out,
		wrongCase{"no panes", func(c *api.Case) { c.Releads[0].Panes = nil }, api.ErrRelead, 0},
		wrongCase{"two releadings", func(c *api.Case) { c.Releads[2].Panes, c.Releads[1].Year = nil, -1 }, api.ErrRelead, 1},
		wrongCase{"too many releadings", func(c *api.Case) {
			c.Releads = slices.Repeat([]api.Relead{relead(5, 1)}, 65)
			c.Releads[3].Year = -1
		}, api.ErrRelead, 0})
}

// wrongPanes are lists that are no strictly increasing lists of the panes 1 and 2.
func wrongPanes() [][]int {
	out := [][]int{{0}, {3}, {-1}, {1, 1}, {2, 1}, {1, 3}, {0, 1}, {1, 2, 3}, {2, 2}, make([]int, 100)}
	for _, n := range extremes() {
		out = append(out, []int{n}, []int{1, n}, []int{n, 2})
	}
	return out
}

// manyPieces, manyFilms and manyItems are n valid ones, with the IDs up to MaxID.
func manyPieces(n int) []api.Piece {
	var out []api.Piece
	for k := range n {
		p := example().Pieces[0]
		p.ID = 65535 - n + 1 + k
		out = append(out, p)
	}
	return out
}

func manyFilms(n int) []api.Film {
	var out []api.Film
	for k := range n {
		out = append(out, api.Film{ID: 65535 - n + 1 + k, Grey: []int{k}})
	}
	return out
}

func manyItems(n int) []api.Item {
	var out []api.Item
	for k := range n {
		out = append(out, api.Item{ID: 65535 - n + 1 + k, Kind: api.ItemFace, Panes: []int{1}})
	}
	return out
}

// TestCheck is E1, for one error at a time.
func TestCheck(t *testing.T) {
	if e, at := evidence.Check(full()); e != api.OK || at != 0 {
		t.Fatal("full", e, at)
	}
	for _, x := range wrongCases() {
		c := full()
		x.change(&c)
		if e, at := evidence.Check(c); e != x.e || at != x.at {
			t.Error(x.name, e, at, x.e, x.at)
		}
	}
}

// TestCheckOrder is E1, for two errors: the one that is named first is returned.
func TestCheckOrder(t *testing.T) {
	all := wrongCases()
	pairs := 0
	for _, first := range all {
		for _, second := range all {
			if first.e >= second.e {
				continue
			}
			c := full()
			first.change(&c)
			second.change(&c)
			if e, at := evidence.Check(c); e != first.e || at != first.at {
				t.Error(first.name, second.name, e, at)
			}
			pairs++
		}
	}
	if pairs < 1000 {
		t.Error("few", pairs)
	}
}

// TestCheckLimits has cases that are just valid.
func TestCheckLimits(t *testing.T) {
	for name, change := range map[string]func(c *api.Case){
		"bare":            func(c *api.Case) { *c = api.Case{Web: exampleWeb(), Palette: 1} },
		"most colours":    func(c *api.Case) { c.Palette = 16 },
		"no items":        func(c *api.Case) { c.Items = nil },
		"most pieces":     func(c *api.Case) { c.Pieces, c.Items = manyPieces(64), nil },
		"most films":      func(c *api.Case) { c.Films, c.Items = manyFilms(16), nil },
		"most items":      func(c *api.Case) { c.Items = manyItems(16) },
		"most releadings": func(c *api.Case) { c.Releads = slices.Repeat([]api.Relead{relead(5, 1)}, 64) },
		"releadings fall": func(c *api.Case) { c.Releads = []api.Relead{relead(9999, 2), relead(0, 1), relead(0, 1)} },
		"most panes":      func(c *api.Case) { *c = api.Case{Web: lattice(8, 8), Palette: 1, Releads: []api.Relead{relead(1, 64)}} },
		"greatest IDs":    func(c *api.Case) { c.Items[6].ID, c.Films[1].ID, c.Pieces[1].Made = 65535, 65535, 9999 },
	} {
		c := full()
		change(&c)
		if e, at := evidence.Check(c); e != api.OK || at != 0 {
			t.Error(name, e, at)
		}
	}
}

// change is a change of an item, and how it is called.
type change struct {
	name string
	make func(x *api.Item)
}

// fieldChanges set each of the fields that not all items have, so that it is valid where a row names it.
func fieldChanges() []change {
	return []change{
		{"Film", func(x *api.Item) { x.Film = 5 }},
		{"Sights", func(x *api.Item) { x.Sights = []api.Sight{{Pane: 1}} }},
		{"Panes", func(x *api.Item) { x.Panes = []int{1} }},
		{"Colours", func(x *api.Item) { x.Colours = []int{2} }},
		{"Count", func(x *api.Item) { x.Count = span(0, 1) }},
		{"Piece", func(x *api.Item) { x.Piece = 1 }},
		{"Lead", func(x *api.Item) { x.Lead = 6 }},
		{"Slack", func(x *api.Item) { x.Slack = 1 }},
	}
}

// namedFields are the fields that the rows of the kinds name.
func namedFields() [][]string {
	return [][]string{
		1: {"Film", "Sights"}, 2: {"Sights"}, 3: {"Panes", "Colours", "Count"}, 4: {"Piece", "Panes"},
		5: {"Lead", "Slack"}, 6: {"Panes", "Count"}, 7: {"Panes"},
	}
}

// TestItemFields is the part of E2 that a field that a row does not name is 0 or empty.
func TestItemFields(t *testing.T) {
	for _, given := range fullItems() {
		for _, change := range fieldChanges() {
			x := given
			change.make(&x)
			want := slices.Contains(namedFields()[x.Kind], change.name)
			if evidence.ValidItem(full(), x) != want {
				t.Error(x.Kind, change.name, want)
			}
		}
	}
}

// wrongItems are items that are not valid for the case full, each for one reason.
func wrongItems() []api.Item {
	var out []api.Item
	add := func(kind int, change func(x *api.Item)) {
		x := fullItems()[kind-1]
		x.Panes, x.Colours, x.Sights = slices.Clone(x.Panes), slices.Clone(x.Colours), slices.Clone(x.Sights)
		change(&x)
		out = append(out, x)
	}
	for kind := 1; kind <= 7; kind++ {
		for _, n := range append(extremes(), -1, 0, 65536) {
			add(kind, func(x *api.Item) { x.ID = n })
		}
		for _, n := range append(extremes(), -1, 10000) {
			add(kind, func(x *api.Item) { x.Year = n })
		}
		for _, n := range append(extremes(), -1, 0, 8) {
			add(kind, func(x *api.Item) { x.Kind = n })
		}
	}
	for _, n := range append(extremes(), -1, 0, 1, 3, 6) {
		add(api.ItemPhoto, func(x *api.Item) { x.Film = n })
		add(api.ItemKept, func(x *api.Item) { x.Piece = n * 2 })
	}
	for _, n := range append(extremes(), -1, 0, 1, 2, 3, 4, 5, 7) {
		add(api.ItemPaint, func(x *api.Item) { x.Lead = n })
	}
	for _, n := range append(extremes(), -1, 17) {
		add(api.ItemPaint, func(x *api.Item) { x.Slack = n })
	}
	for _, kind := range []int{api.ItemInventory, api.ItemKept, api.ItemSurvivors, api.ItemFace} {
		for _, l := range wrongPanes() {
			add(kind, func(x *api.Item) { x.Panes = l })
		}
		if kind != api.ItemKept {
			add(kind, func(x *api.Item) { x.Panes = nil })
		}
	}
	for _, l := range [][]int{nil, {0}, {17}, {-1}, {1, 1}, {2, 1}, {1, 17}, extremes(), {extremes()[3]}, make([]int, 100)} {
		add(api.ItemInventory, func(x *api.Item) { x.Colours = l })
	}
	for _, s := range wrongSpans(64) {
		add(api.ItemInventory, func(x *api.Item) { x.Count = s })
		add(api.ItemSurvivors, func(x *api.Item) { x.Count = s })
	}
	for _, kind := range []int{api.ItemPhoto, api.ItemRubbing} {
		add(kind, func(x *api.Item) { x.Sights = nil })
		add(kind, func(x *api.Item) { x.Sights = slices.Repeat(x.Sights[:1], 17) })
		add(kind, func(x *api.Item) { x.Sights = slices.Repeat(x.Sights[:1], 1000) })
		for _, s := range wrongSights(kind) {
			add(kind, func(x *api.Item) { x.Sights[0] = s })
			add(kind, func(x *api.Item) { x.Sights[1] = s })
		}
	}
	return out
}

// wrongSpans are spans that are empty, or do not lie from 0 to most.
func wrongSpans(most int) []api.Span {
	low, high := extremes()[0], extremes()[3]
	return []api.Span{span(1, 0), span(-1, 0), span(-1, -1), span(0, most+1), span(most+1, most+1), span(most, 0), span(0, high), span(low, 0), span(low, high), span(high, low), span(0, -1)}
}

// wrongSights are sights that are not valid in an item of a kind, each for one reason.
func wrongSights(kind int) []api.Sight {
	good := fullItems()[kind-1].Sights[0]
	var out []api.Sight
	add := func(change func(s *api.Sight)) {
		s := good
		change(&s)
		out = append(out, s)
	}
	for _, n := range append(extremes(), -1, 0, 3) {
		add(func(s *api.Sight) { s.Pane = n })
	}
	if kind == api.ItemPhoto {
		for _, grey := range wrongSpans(255) {
			add(func(s *api.Sight) { s.Grey = grey })
		}
		add(func(s *api.Sight) { s.Edge = 1 })
		add(func(s *api.Sight) { s.At = span(0, 1) })
		add(func(s *api.Sight) { s.Count = span(0, 1) })
		return out
	}
	for _, n := range append(extremes(), -1, 4) {
		add(func(s *api.Sight) { s.Edge = n })
	}
	for _, at := range wrongSpans(16) {
		add(func(s *api.Sight) { s.At = at })
	}
	for _, count := range wrongSpans(32) {
		add(func(s *api.Sight) { s.Count = count })
	}
	add(func(s *api.Sight) { s.Grey = span(0, 1) })
	// The pane 1 has fewer edges.
	add(func(s *api.Sight) { s.Pane = 1 })
	return out
}

// TestValidItem is E2.
func TestValidItem(t *testing.T) {
	c := full()
	for _, x := range wrongItems() {
		if evidence.ValidItem(c, x) {
			t.Error("not valid", x)
		}
		one := full()
		one.Items = []api.Item{x}
		if e, at := evidence.Check(one); e != api.ErrItem || at != x.ID {
			t.Error("Check", x, e, at)
		}
	}
	for _, x := range validItems() {
		if !evidence.ValidItem(c, x) {
			t.Error("valid", x)
		}
	}
}

// validItems are valid items for the case full, at the limits.
func validItems() []api.Item {
	all := []int{1, 2, 3, 4, 5, 6, 7, 8, 9, 10, 11, 12, 13, 14, 15, 16}
	return append(fullItems(),
		api.Item{ID: 65535, Kind: api.ItemPhoto, Film: 5, Sights: slices.Repeat([]api.Sight{{Pane: 1, Grey: only(255)}}, 16)},
		api.Item{ID: 1, Kind: api.ItemPhoto, Film: 5, Sights: []api.Sight{{Pane: 2}}},
		api.Item{ID: 1, Kind: api.ItemRubbing, Year: 9999, Sights: slices.Repeat([]api.Sight{{Pane: 2, Edge: 3, At: only(16), Count: only(32)}}, 16)},
		api.Item{ID: 1, Kind: api.ItemRubbing, Sights: []api.Sight{{Pane: 1}}},
		api.Item{ID: 1, Kind: api.ItemInventory, Panes: []int{2}, Colours: all},
		api.Item{ID: 1, Kind: api.ItemInventory, Panes: []int{1}, Colours: []int{16}, Count: only(64)},
		api.Item{ID: 1, Kind: api.ItemKept, Piece: 1},
		api.Item{ID: 1, Kind: api.ItemKept, Piece: 3, Panes: []int{1, 2}},
		api.Item{ID: 1, Kind: api.ItemPaint, Lead: 6},
		api.Item{ID: 1, Kind: api.ItemPaint, Lead: 6, Slack: 16},
		api.Item{ID: 1, Kind: api.ItemSurvivors, Panes: []int{2}, Count: span(0, 64)},
		api.Item{ID: 1, Kind: api.ItemFace, Panes: []int{2}})
}

// TestValidItemCase is the part of E2 that Items and Releads are left out of account, and all else must be valid.
func TestValidItemCase(t *testing.T) {
	for _, wrong := range wrongCases() {
		c := full()
		wrong.change(&c)
		rest := wrong.e == api.ErrItem || wrong.e == api.ErrRelead
		if evidence.ValidItem(c, api.Item{ID: 10, Kind: api.ItemFace, Panes: []int{1}}) != rest {
			t.Error(wrong.name, rest)
		}
	}
}

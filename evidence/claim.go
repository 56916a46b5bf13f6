package evidence

import (
	"slices"

	"leadlight/api"
	"leadlight/glass"
)

// claim is one thing that an item says: the indices of the panes of which it says it, the rule that it makes of the options of all panes, and whether it is true of a filling.
type claim struct {
	panes []int
	rule  func(options [][]api.Option) api.Rule
	holds func(filling []api.Option) bool
}

// claims returns what a valid item says, in the order of its rules.
func (k known) claims(x api.Item) []claim {
	says := [api.ItemFace + 1]func(api.Item) []claim{
		api.ItemPhoto:     k.photo,
		api.ItemRubbing:   k.rubbing,
		api.ItemInventory: k.inventory,
		api.ItemKept:      k.kept,
		api.ItemPaint:     k.paint,
		api.ItemSurvivors: k.survivors,
		api.ItemFace:      k.face,
	}
	return says[x.Kind](x)
}

func (k known) photo(x api.Item) []claim {
	film, _ := k.film(x.Film)
	return ofSights(x, func(s api.Sight, o api.Option) bool {
		grey, e := glass.Grey(film, o.Colour)
		return e == api.OK && contains(s.Grey, grey)
	})
}

func (k known) rubbing(x api.Item) []claim {
	return ofSights(x, func(s api.Sight, o api.Option) bool {
		n, _ := glass.Count(k.marks(o), s.Edge, s.At)
		return lost(o) || contains(s.Count, n)
	})
}

func (k known) inventory(x api.Item) []claim {
	return []claim{tally(x.ID, indices(x.Panes), x.Count, func(o api.Option) bool { return slices.Contains(x.Colours, o.Colour) })}
}

func (k known) kept(x api.Item) []claim {
	panes, count := indices(x.Panes), one(1)
	if len(panes) == 0 {
		for i := range k.panes {
			panes = append(panes, i)
		}
		count = one(0)
	}
	return []claim{tally(x.ID, panes, count, func(o api.Option) bool { return o.Piece == x.Piece })}
}

func (k known) paint(x api.Item) []claim {
	left, right, _ := k.whole(x.Lead)
	onLeft, onRight := k.remember(left.edge), k.remember(right.edge)
	return []claim{match(x.ID, indices([]int{left.pane, right.pane}), func(a, b api.Option) bool {
		if lost(a) || lost(b) {
			return true
		}
		_, e := glass.RunOn(onLeft(a), onRight(b), x.Slack)
		return e == api.OK
	})}
}

func (k known) survivors(x api.Item) []claim {
	return []claim{tally(x.ID, indices(x.Panes), x.Count, func(o api.Option) bool { return !lost(o) })}
}

func (k known) face(x api.Item) []claim {
	return []claim{tally(x.ID, indices(x.Panes), one(0), func(o api.Option) bool { return o.Setting.Back })}
}

// ofSights returns the claims that what is said of a sight is true of the option of its pane.
func ofSights(x api.Item, says func(api.Sight, api.Option) bool) []claim {
	var out []claim
	for _, s := range x.Sights {
		out = append(out, tally(x.ID, indices([]int{s.Pane}), one(1), func(o api.Option) bool { return says(s, o) }))
	}
	return out
}

// tally returns the claim that the number of panes whose options are hits lies in a span.
func tally(item int, panes []int, count api.Span, hit func(api.Option) bool) claim {
	rule := func(options [][]api.Option) api.Rule {
		out := api.Rule{Item: item, Kind: api.RuleCount, Panes: panes, Count: count}
		for _, i := range panes {
			out.Hits = append(out.Hits, ask(options[i], hit))
		}
		return out
	}
	holds := func(filling []api.Option) bool {
		n := 0
		for _, i := range panes {
			if hit(filling[i]) {
				n++
			}
		}
		return contains(count, n)
	}
	return claim{panes, rule, holds}
}

// match returns the claim that the options of two panes go together.
func match(item int, panes []int, together func(a, b api.Option) bool) claim {
	rule := func(options [][]api.Option) api.Rule {
		out := api.Rule{Item: item, Kind: api.RulePair, Panes: panes}
		for _, a := range options[panes[0]] {
			out.OK = append(out.OK, ask(options[panes[1]], func(b api.Option) bool { return together(a, b) }))
		}
		return out
	}
	holds := func(filling []api.Option) bool { return together(filling[panes[0]], filling[panes[1]]) }
	return claim{panes, rule, holds}
}

// remember returns a function that works out the marks that an option shows on an edge once only, as a rule asks for them with each option of the other pane.
func (k known) remember(edge int) func(api.Option) []api.Mark {
	shown := map[api.Option][]api.Mark{}
	return func(o api.Option) []api.Mark {
		marks, ok := shown[o]
		if !ok {
			marks = k.marksOn(o, edge)
			shown[o] = marks
		}
		return marks
	}
}

// ask returns of which options something is true.
func ask(l []api.Option, is func(api.Option) bool) []bool {
	var out []bool
	for _, o := range l {
		out = append(out, is(o))
	}
	return out
}

// indices returns the indices of panes.
func indices(panes []int) []int {
	var out []int
	for _, id := range panes {
		out = append(out, id-1)
	}
	return out
}

// lost reports whether an option is new glass.
func lost(o api.Option) bool { return o.Piece == 0 }

// one returns the span of one number.
func one(n int) api.Span { return api.Span{Lo: n, Hi: n} }

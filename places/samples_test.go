package places_test

import (
	"cmp"
	"math"
	"math/rand"
	"slices"
	"testing"

	"leadlight/api"
	"leadlight/places"
)

// span is the span from lo to hi, and only is the span of one number.
func span(lo, hi int) api.Span { return api.Span{Lo: lo, Hi: hi} }
func only(n int) api.Span      { return span(n, n) }

// glazed and fresh are options: a piece in the setting {0, false}, and new glass.
func glazed(piece, colour int) api.Option { return api.Option{Piece: piece, Colour: colour} }
func fresh(colour int) api.Option         { return api.Option{Colour: colour} }

// counts and pairs are rules.
func counts(item int, count api.Span, panes []int, hits ...[]bool) api.Rule {
	return api.Rule{Item: item, Kind: api.RuleCount, Panes: panes, Hits: hits, Count: count}
}

func pairs(item, a, b int, ok ...[]bool) api.Rule {
	return api.Rule{Item: item, Kind: api.RulePair, Panes: []int{a, b}, OK: ok}
}

// example is the problem of the chapter's examples, and never its further item 5.
func example() api.Problem {
	return api.Problem{
		Panes:   []int{1, 2},
		Options: [][]api.Option{{glazed(5, 1), glazed(6, 2), fresh(1)}, {glazed(5, 1), glazed(6, 2), fresh(1)}},
		Rules: []api.Rule{
			counts(3, only(0), []int{0, 1}, []bool{false, false, true}, []bool{false, false, true}),
			pairs(4, 0, 1, []bool{true, true, true}, []bool{false, true, true}, []bool{true, true, true}),
		},
	}
}

func never() api.Rule { return pairs(5, 0, 1, make([]bool, 3), make([]bool, 3), make([]bool, 3)) }

// with returns a problem with more rules.
func with(p api.Problem, rules ...api.Rule) api.Problem {
	p.Rules = append(slices.Clone(p.Rules), rules...)
	return p
}

// plain returns a problem without rules in which the panes have so many options; no piece is in two panes.
func plain(numbers ...int) api.Problem {
	var p api.Problem
	for i, n := range numbers {
		var l []api.Option
		for k := range n {
			l = append(l, glazed(300*(i+1)+k, 1))
		}
		p.Panes, p.Options = append(p.Panes, i+1), append(p.Options, l)
	}
	return p
}

// repeated is a list of n equal elements.
func repeated[T any](x T, n int) []T { return slices.Repeat([]T{x}, n) }

// larges are problems of which the space is just above MaxSpace (65540), up to 2^50, above it, and far above all numbers.
func larges() map[string]api.Problem {
	return map[string]api.Problem{
		"just":    plain(113, 29, 20, 1),
		"2^17":    plain(256, 256, 1, 2),
		"2^50":    plain(repeated(32, 10)...),
		"2^51":    plain(append(repeated(32, 10), 2)...),
		"endless": plain(repeated(256, 64)...),
	}
}

// sample is a valid problem that is not large, with the chapter's words said anew.
type sample struct{ api.Problem }

// fillings returns all fillings that begin with options, in order.
func (s sample) fillings(first ...int) [][]int {
	out := [][]int{slices.Clone(first)}
	for _, l := range s.Options[len(first):] {
		var longer [][]int
		for _, f := range out {
			for n := range l {
				longer = append(longer, append(slices.Clone(f), n))
			}
		}
		out = longer
	}
	return out
}

func (s sample) sound(f []int) bool {
	for i, m := range f {
		for k, n := range f[:i] {
			if piece := s.Options[i][m].Piece; piece > 0 && piece == s.Options[k][n].Piece {
				return false
			}
		}
	}
	return true
}

func (s sample) keeps(r api.Rule, f []int) bool {
	if r.Kind == api.RulePair {
		return r.OK[f[r.Panes[0]]][f[r.Panes[1]]]
	}
	n := 0
	for k, i := range r.Panes {
		if r.Hits[k][f[i]] {
			n++
		}
	}
	return r.Count.Lo <= n && n <= r.Count.Hi
}

func (s sample) breaks(f []int) []int {
	var out []int
	for i, r := range s.Rules {
		if !s.keeps(r, f) {
			out = append(out, i)
		}
	}
	return out
}

func (s sample) violates(f []int) []int {
	var out []int
	for _, i := range s.breaks(f) {
		if item := s.Rules[i].Item; !slices.Contains(out, item) {
			out = append(out, item)
		}
	}
	return out
}

func (s sample) agrees(f []int) bool { return s.sound(f) && len(s.breaks(f)) == 0 }

// agreeing returns all fillings that agree, in order.
func (s sample) agreeing() [][]int {
	return slices.DeleteFunc(s.fillings(), func(f []int) bool { return !s.agrees(f) })
}

// possible tells which options some fillings have.
func (s sample) possible(fillings [][]int) [][]bool {
	var out [][]bool
	for i, l := range s.Options {
		row := make([]bool, len(l))
		for _, f := range fillings {
			row[f[i]] = true
		}
		out = append(out, row)
	}
	return out
}

// items returns the items of the rules.
func (s sample) items() []int {
	var out []int
	for _, r := range s.Rules {
		out = append(out, r.Item)
	}
	slices.Sort(out)
	return slices.Compact(out)
}

// sets returns all sets of items, in order.
func (s sample) sets() [][]int {
	out := [][]int{nil}
	for _, item := range s.items() {
		for _, l := range out {
			out = append(out, append(slices.Clone(l), item))
		}
	}
	slices.SortFunc(out, func(l, m []int) int { return cmp.Or(cmp.Compare(len(l), len(m)), slices.Compare(l, m)) })
	return out
}

// everyChoice returns all pairs of a pane and one of its options.
func (s sample) everyChoice() [][2]int {
	var out [][2]int
	for i, l := range s.Options {
		for k := range l {
			out = append(out, [2]int{i, k})
		}
	}
	return out
}

// sameBools and sameProblem compare results, for which a nil slice and an empty one are the same.
func sameBools(a, b [][]bool) bool {
	return slices.EqualFunc(a, b, func(l, m []bool) bool { return slices.Equal(l, m) })
}

func sameProblem(a, b api.Problem) bool {
	sameOptions := func(l, m []api.Option) bool { return slices.Equal(l, m) }
	sameRule := func(r, s api.Rule) bool {
		return r.Item == s.Item && r.Kind == s.Kind && slices.Equal(r.Panes, s.Panes) && r.Count == s.Count && sameBools(r.Hits, s.Hits) && sameBools(r.OK, s.OK)
	}
	return slices.Equal(a.Panes, b.Panes) && slices.EqualFunc(a.Options, b.Options, sameOptions) && slices.EqualFunc(a.Rules, b.Rules, sameRule)
}

func sameNode(a, b api.Node) bool {
	return a.Kind == b.Kind && a.Index == b.Index && slices.EqualFunc(a.Kids, b.Kids, sameNode)
}

// copied returns a problem that shares no memory with p.
func copied(p api.Problem) api.Problem {
	q := api.Problem{Panes: slices.Clone(p.Panes)}
	for _, l := range p.Options {
		q.Options = append(q.Options, slices.Clone(l))
	}
	for _, r := range p.Rules {
		r.Panes, r.Hits, r.OK = slices.Clone(r.Panes), slices.Clone(r.Hits), slices.Clone(r.OK)
		for _, rows := range [][][]bool{r.Hits, r.OK} {
			for k := range rows {
				rows[k] = slices.Clone(rows[k])
			}
		}
		q.Rules = append(q.Rules, r)
	}
	return q
}

// bools throws n bools, of which about so many of eight are true.
func bools(d *rand.Rand, n, eighths int) []bool {
	out := make([]bool, n)
	for k := range out {
		out[k] = d.Intn(8) < eighths
	}
	return out
}

// thrownOptions throws the options of a pane, in order.
func thrownOptions(d *rand.Rand, most int) []api.Option {
	var all []api.Option
	for piece := 1; piece <= 3; piece++ {
		for k := range 4 {
			all = append(all, api.Option{Piece: piece, Setting: api.Setting{Shift: k / 2, Back: k%2 == 1}, Colour: 1})
		}
		all = append(all, api.Option{Piece: piece, Setting: api.Setting{Shift: 2}, Colour: 1}, api.Option{Piece: piece, Setting: api.Setting{Shift: 2}, Colour: 2})
	}
	all = append(all, fresh(1), fresh(2), fresh(3))
	chosen := d.Perm(len(all))[:1+d.Intn(most)]
	slices.Sort(chosen)
	var out []api.Option
	for _, k := range chosen {
		out = append(out, all[k])
	}
	return out
}

// thrownRule throws a rule of an item.
func thrownRule(d *rand.Rand, p api.Problem, item int) api.Rule {
	n := len(p.Panes)
	if n > 1 && d.Intn(2) == 0 {
		at := d.Perm(n)
		r := pairs(item, at[0], at[1])
		density := 3 + d.Intn(5)
		for range p.Options[at[0]] {
			r.OK = append(r.OK, bools(d, len(p.Options[at[1]]), density))
		}
		return r
	}
	lo := d.Intn(3) - 1
	r := counts(item, span(lo, lo+d.Intn(4)), nil)
	if d.Intn(8) == 0 {
		r.Count = []api.Span{span(math.MinInt, math.MaxInt), span(1, 0), span(math.MaxInt, math.MinInt), span(math.MinInt, 0), span(2, math.MaxInt)}[d.Intn(5)]
	}
	for i, l := range p.Options {
		if d.Intn(3) > 0 {
			r.Panes, r.Hits = append(r.Panes, i), append(r.Hits, bools(d, len(l), d.Intn(9)))
		}
	}
	return r
}

// thrown throws a problem of a few panes.
func thrown(d *rand.Rand) api.Problem {
	var p api.Problem
	for pane := range 64 {
		if d.Intn(16) == 0 && len(p.Panes) < 4 {
			p.Panes, p.Options = append(p.Panes, pane+1), append(p.Options, thrownOptions(d, 4))
		}
	}
	item := 1
	for range d.Intn(9) {
		item += d.Intn(3)
		p.Rules = append(p.Rules, thrownRule(d, p, item))
	}
	return p
}

// samples returns the example, problems at the borders, and thrown ones.
func samples(t *testing.T) []sample {
	t.Helper()
	out := []sample{{example()}, {with(example(), never())}, {}, {plain(1)}, {plain(3, 1, 2)}}
	nothing := counts(9, only(0), nil)
	none := counts(9, only(1), nil)
	out = append(out, sample{with(api.Problem{}, nothing)}, sample{with(api.Problem{}, none)}, sample{with(plain(2, 2), nothing, none)})
	d := rand.New(rand.NewSource(7))
	for range 900 {
		out = append(out, sample{thrown(d)})
	}
	for _, s := range out {
		if !places.Valid(s.Problem) {
			t.Fatal("not valid", s)
		}
	}
	return out
}

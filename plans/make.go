package plans

import (
	"iter"
	"slices"

	"leadlight/api"
)

// Make returns the cheapest plan.
func Make(j api.Job) (api.Plan, api.Errno) {
	t, e := read(j)
	if e != api.OK {
		return api.Plan{}, e
	}
	l := newLifts(t)
	f, cost := l.cheapestFilling()
	if cost == api.NoPlan {
		return api.Plan{}, l.trouble()
	}
	return t.plan(f, l.cheapest(t.changed(f)).panes(), cost), api.OK
}

// plan returns the plan of a filling with a lifting.
func (t *task) plan(f picks, list []int, cost int) api.Plan {
	p := api.Plan{Cost: cost, Filling: t.options(f), Set: list}
	p.Positions, _ = t.close(f)
	p.Cutting, _ = t.glaze(f)
	p.Steps = t.steps(list, p.Cutting.Scores)
	return p
}

// cheapestFilling returns the filling of the cheapest plan, and its cost; if there is no plan, NoPlan.
func (l lifts) cheapestFilling() (picks, int) {
	best, cost := picks{}, api.NoPlan
	better := func(p picks) bool { return l.agrees(p) && l.lower(p) < cost && l.closes(p) && l.glazes(p) }
	for f := range l.fillings(better) {
		best, cost = f, l.lower(f)
	}
	return best, cost
}

// trouble returns the error of a job without a plan.
func (l lifts) trouble() api.Errno {
	switch {
	case !l.some(l.agrees):
		return api.ErrAgree
	case !l.some(func(p picks) bool { return l.agrees(p) && l.closes(p) }):
		return api.ErrClose
	case !l.some(func(p picks) bool { return l.agrees(p) && l.closes(p) && l.glazes(p) }):
		return api.ErrGlass
	}
	return api.ErrLift
}

// some reports whether there is a filling for which something is true.
func (l lifts) some(is func(picks) bool) bool {
	for range l.fillings(is) {
		return true
	}
	return false
}

// fillings yields, in order, the fillings for which something is true. It must be true of a part of the options, too, if it is of all of them.
func (t *task) fillings(is func(picks) bool) iter.Seq[picks] {
	return func(yield func(picks) bool) {
		// visit yields the fillings with the options chosen for the panes ahead of a pane, and reports whether to go on.
		var visit func(p picks, i int) bool
		visit = func(p picks, i int) bool {
			if !is(p) {
				return true
			}
			if i == len(t.panes) {
				return yield(p)
			}
			for k := range t.problem.Options[i] {
				p[i] = k + 1
				if !visit(p, i+1) {
					return false
				}
			}
			return true
		}
		visit(picks{}, 0)
	}
}

// agrees reports whether the chosen options use no piece twice, and leave each rule to be kept.
func (t *task) agrees(p picks) bool {
	_, broken := t.brokenRule(p)
	return !t.doubled(p) && !broken
}

// doubled reports whether the chosen options use a piece twice.
func (t *task) doubled(p picks) bool {
	var used []int
	for _, o := range t.chosen(p) {
		if o.Piece > 0 && slices.Contains(used, o.Piece) {
			return true
		}
		used = append(used, o.Piece)
	}
	return false
}

// brokenRule returns the index of the first rule that is broken whatever options the other panes have, if there is one.
func (t *task) brokenRule(p picks) (int, bool) {
	at := slices.IndexFunc(t.problem.Rules, func(r api.Rule) bool { return t.breaks(r, p) })
	return max(at, 0), at >= 0
}

// breaks reports whether a rule is broken whatever options the other panes have.
func (t *task) breaks(r api.Rule, p picks) bool {
	if r.Kind == api.RulePair {
		second := t.left(r.Panes[1], p)
		kept := func(row []bool) bool { return slices.Contains(row[second.Lo:second.Hi], true) }
		first := t.left(r.Panes[0], p)
		return !slices.ContainsFunc(r.OK[first.Lo:first.Hi], kept)
	}
	least, most := 0, 0
	for k, i := range r.Panes {
		left := t.left(i, p)
		hits := r.Hits[k][left.Lo:left.Hi]
		if slices.Contains(hits, true) {
			most++
		}
		if !slices.Contains(hits, false) {
			least++
		}
	}
	return most < r.Count.Lo || least > r.Count.Hi
}

// left returns from which index up to which other one, without it, the options are that a pane can have.
func (t *task) left(i int, p picks) api.Span {
	if p[i] > 0 {
		return api.Span{Lo: p[i] - 1, Hi: p[i]}
	}
	return api.Span{Lo: 0, Hi: len(t.problem.Options[i])}
}

// lower returns what a filling with the chosen options costs at least, and just what it costs if all are chosen; if it has no lifting, NoPlan or more.
func (l lifts) lower(p picks) int { return l.price(p) + l.cheapest(l.changed(p)).price }

package dossier

import "leadlight/api"

// forms are what the parts of a dossier hold, one after the other.
func forms() []func(coder, *api.Dossier) {
	return []func(coder, *api.Dossier){
		coder.job, coder.glass, coder.history, coder.survey, coder.clash, coder.choices, coder.plan, coder.proof,
	}
}

func (c coder) job(d *api.Dossier) {
	j := &d.Job
	list(c, &j.Case.Web.Joints, func(x *api.Joint) { c.number(&x.ID, &x.At.X, &x.At.Y) })
	list(c, &j.Case.Web.Leads, func(x *api.Lead) {
		c.number(&x.ID, &x.A, &x.B, &x.Heart, &x.Left, &x.Right, &x.Give, &x.Cost)
	})
	c.number(&j.Case.Palette, &j.Year)
	c.numbers(&j.Open)
	list(c, &j.Pins, func(x *api.Pin) { c.number(&x.Joint, &x.Play) })
	list(c, &j.Sheets, func(x *api.Sheet) { c.number(&x.ID, &x.Colour, &x.W, &x.H, &x.Grain) })
	c.number(&j.Bite, &j.Turn, &j.Move, &j.New)
}

func (c coder) glass(d *api.Dossier) {
	list(c, &d.Job.Case.Pieces, c.piece)
	list(c, &d.Job.Case.Films, func(x *api.Film) {
		c.number(&x.ID)
		c.numbers(&x.Grey)
	})
}

func (c coder) history(d *api.Dossier) {
	list(c, &d.Job.Case.Items, c.item)
	list(c, &d.Job.Case.Releads, func(x *api.Relead) {
		c.number(&x.Year)
		c.numbers(&x.Panes)
	})
	list(c, &d.Job.Found, func(x *api.Held) {
		c.number(&x.Pane, &x.Piece, &x.Colour)
		c.setting(&x.Setting)
	})
}

func (c coder) survey(d *api.Dossier) { c.nodes(&d.Survey) }

func (c coder) nodes(root *api.Node) {
	tree(c, root, func(n *api.Node) { c.number(&n.Kind, &n.Index) }, func(n *api.Node) *[]api.Node { return &n.Kids })
}

func (c coder) clash(d *api.Dossier) {
	c.numbers(&d.Clash)
	c.nodes(&d.Alone)
	list(c, &d.Hits, c.numbers)
}

func (c coder) choices(d *api.Dossier) {
	list(c, &d.Choices, func(x *api.Choice) {
		c.number(&x.Pane)
		c.option(&x.Option)
		c.numbers(&x.Witness)
	})
}

func (c coder) option(o *api.Option) {
	c.number(&o.Piece)
	c.setting(&o.Setting)
	c.number(&o.Colour)
}

func (c coder) plan(d *api.Dossier) {
	trouble := int(d.Trouble)
	c.number(&trouble)
	d.Trouble = api.Errno(trouble)
	p := &d.Plan
	c.number(&p.Cost)
	list(c, &p.Filling, c.option)
	c.numbers(&p.Set)
	list(c, &p.Steps, func(x *api.Step) {
		c.number(&x.Kind, &x.Pane)
		c.score(&x.Score)
	})
	list(c, &p.Positions, func(x *api.Position) { c.number(&x.Joint, &x.At.X, &x.At.Y) })
	c.number(&p.Cutting.Area)
	list(c, &p.Cutting.Placed, func(x *api.Placed) { c.number(&x.Want, &x.Sheet, &x.Turn, &x.At.X, &x.At.Y) })
	list(c, &p.Cutting.Scores, c.score)
}

func (c coder) score(s *api.Score) {
	c.number(&s.Sheet, &s.Kind, &s.Want)
	list(c, &s.Points, func(x *api.Point) { c.number(&x.X, &x.Y) })
}

func (c coder) proof(d *api.Dossier) {
	c.number(&d.Bound)
	tree(c, &d.Proof, c.step, func(n *api.Proof) *[]api.Proof { return &n.Kids })
}

// step passes a node of a proof without its kids.
func (c coder) step(n *api.Proof) {
	c.number(&n.Kind, &n.Index, &n.Loop.Axis)
	list(c, &n.Loop.Bounds, func(x *api.Bound) { c.number(&x.From, &x.To, &x.Most, &x.Kind, &x.ID) })
}

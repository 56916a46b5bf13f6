package evidence

import "leadlight/api"

// fields checks the fields that the row of a kind names: it returns an item without them, and whether they are as the row says.
type fields func(api.Item) (api.Item, bool)

// validItem reports whether an item is valid for the case.
func (k known) validItem(x api.Item) bool {
	if !within(x.ID, 1, api.MaxID) || !validYear(x.Year) || !within(x.Kind, api.ItemPhoto, api.ItemFace) {
		return false
	}
	rows := [api.ItemFace + 1]fields{
		api.ItemPhoto:     k.photoFields,
		api.ItemRubbing:   k.rubbingFields,
		api.ItemInventory: k.inventoryFields,
		api.ItemKept:      k.keptFields,
		api.ItemPaint:     k.paintFields,
		api.ItemSurvivors: k.survivorsFields,
		api.ItemFace:      k.faceFields,
	}
	rest, ok := rows[x.Kind](x)
	return ok && empty(rest)
}

// empty reports whether an item has no other fields than every item has.
func empty(x api.Item) bool {
	return x.Film == 0 && x.Piece == 0 && x.Lead == 0 && x.Slack == 0 &&
		len(x.Panes) == 0 && len(x.Colours) == 0 && x.Count == api.Span{} && len(x.Sights) == 0
}

func (k known) photoFields(x api.Item) (api.Item, bool) {
	_, e := k.film(x.Film)
	ok := e == api.OK && validSights(x.Sights, k.validShot)
	x.Film, x.Sights = 0, nil
	return x, ok
}

func (k known) rubbingFields(x api.Item) (api.Item, bool) {
	ok := validSights(x.Sights, k.validRub)
	x.Sights = nil
	return x, ok
}

func (k known) inventoryFields(x api.Item) (api.Item, bool) {
	ok := len(x.Colours) > 0 && rising(x.Colours, api.MaxColour)
	x.Colours = nil
	rest, counted := k.survivorsFields(x)
	return rest, ok && counted
}

func (k known) keptFields(x api.Item) (api.Item, bool) {
	_, e := k.piece(x.Piece)
	ok := e == api.OK && k.validPanes(x.Panes)
	x.Piece, x.Panes = 0, nil
	return x, ok
}

func (k known) paintFields(x api.Item) (api.Item, bool) {
	_, _, e := k.whole(x.Lead)
	ok := e == api.OK && within(x.Slack, 0, api.Parts)
	x.Lead, x.Slack = 0, 0
	return x, ok
}

func (k known) survivorsFields(x api.Item) (api.Item, bool) {
	ok := validSpan(x.Count, api.MaxPanes)
	x.Count = api.Span{}
	rest, some := k.faceFields(x)
	return rest, ok && some
}

func (k known) faceFields(x api.Item) (api.Item, bool) {
	ok := len(x.Panes) > 0 && k.validPanes(x.Panes)
	x.Panes = nil
	return x, ok
}

// validSights reports whether there are as many sights as an item must have, all of them valid.
func validSights(l []api.Sight, valid func(api.Sight) bool) bool {
	if !within(len(l), 1, api.MaxSights) {
		return false
	}
	for _, s := range l {
		if !valid(s) {
			return false
		}
	}
	return true
}

// validShot reports whether a sight is valid in a photograph.
func (k known) validShot(s api.Sight) bool {
	_, e := k.pane(s.Pane)
	return e == api.OK && validSpan(s.Grey, api.MaxGrey) && s == api.Sight{Pane: s.Pane, Grey: s.Grey}
}

// validRub reports whether a sight is valid in a rubbing.
func (k known) validRub(s api.Sight) bool {
	pane, e := k.pane(s.Pane)
	return e == api.OK && within(s.Edge, 0, len(pane.Outline)-1) &&
		validSpan(s.At, api.Parts) && validSpan(s.Count, api.MaxMarks) && s.Grey == api.Span{}
}

// validSpan reports whether a span is not empty, and lies from 0 to most.
func validSpan(s api.Span, most int) bool { return 0 <= s.Lo && s.Lo <= s.Hi && s.Hi <= most }

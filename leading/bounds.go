package leading

import (
	"cmp"
	"slices"

	"leadlight/api"
)

// coordinate returns the coordinate of a point on the axis X (0) or Y (1).
func coordinate(p api.Point, axis int) int {
	if axis == 0 {
		return p.X
	}
	return p.Y
}

// extremes returns the joints at the corners of a pane with the least and with the greatest coordinate on an axis; of several, those with the least one on the other axis.
func (g glazed) extremes(pane, axis int) (low, high int) {
	along := func(p, q api.Point) int { return cmp.Compare(coordinate(p, axis), coordinate(q, axis)) }
	beside := func(p, q api.Point) int { return cmp.Compare(coordinate(p, 1-axis), coordinate(q, 1-axis)) }
	outline := g.panes[pane-1].Outline
	first := slices.MinFunc(outline, func(p, q api.Point) int { return cmp.Or(along(p, q), beside(p, q)) })
	last := slices.MinFunc(outline, func(p, q api.Point) int { return cmp.Or(along(q, p), beside(p, q)) })
	return g.jointAt(first), g.jointAt(last)
}

// jointAt returns the joint at a corner.
func (g glazed) jointAt(p api.Point) int {
	joints := g.panel.Web.Joints
	return joints[slices.IndexFunc(joints, func(j api.Joint) bool { return j.At == p })].ID
}

// bounds returns the bounds of an axis: of the leads, the pins and valid needs.
func (g glazed) bounds(needs []api.Need, axis int) []api.Bound {
	drawn := map[int]int{}
	for _, j := range g.panel.Web.Joints {
		drawn[j.ID] = coordinate(j.At, axis)
	}
	var out []api.Bound
	for _, l := range g.panel.Web.Leads {
		d := drawn[l.B] - drawn[l.A]
		out = append(out,
			api.Bound{From: l.A, To: l.B, Most: d + l.Give, Kind: api.BoundLead, ID: l.ID},
			api.Bound{From: l.B, To: l.A, Most: l.Give - d, Kind: api.BoundBack, ID: l.ID})
	}
	for _, pin := range g.panel.Pins {
		at := drawn[pin.Joint]
		out = append(out,
			api.Bound{To: pin.Joint, Most: at + pin.Play, Kind: api.BoundPin, ID: pin.Joint},
			api.Bound{From: pin.Joint, Most: pin.Play - at, Kind: api.BoundUnpin, ID: pin.Joint})
	}
	for _, n := range needs {
		low, high := g.extremes(n.Pane, axis)
		out = append(out, api.Bound{From: high, To: low, Most: drawn[low] - drawn[high] - n.W, Kind: api.BoundNeed, ID: n.Pane})
	}
	return out
}

// relax returns the greatest position of each joint that keeps all bounds, or, if there is none, a loop of bounds. Each joint must hang on the origin by bounds.
func relax(bounds []api.Bound) (far map[int]int, loop []api.Bound) {
	far = map[int]int{0: 0}
	last := map[int]api.Bound{}
rounds:
	for round := 1; ; round++ {
		moved, joint := false, 0
		for _, b := range bounds {
			from, reached := far[b.From]
			to, known := far[b.To]
			if !reached || known && to-from <= b.Most {
				continue
			}
			far[b.To], last[b.To] = from+b.Most, b
			moved, joint = true, b.To
		}
		switch {
		case !moved:
			break rounds
		case round >= len(far):
			// What moves in this round was moved by a chain of as many bounds as there are rounds, which comes to a joint twice.
			return nil, loopBehind(last, joint)
		}
	}
	return far, nil
}

// loopBehind returns the loop to which the bounds lead back from a joint.
func loopBehind(last map[int]api.Bound, joint int) []api.Bound {
	for range last {
		joint = last[joint].From
	}
	var loop []api.Bound
	for at := joint; ; {
		b := last[at]
		loop = append(loop, b)
		at = b.From
		if at == joint {
			slices.Reverse(loop)
			return loop
		}
	}
}

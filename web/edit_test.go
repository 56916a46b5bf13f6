package web_test

import (
	"math"
	"math/rand"
	"slices"
	"testing"

	"leadlight/api"
	"leadlight/web"
)

// What follows shortens edits of each kind.

func addJoint(id int, p api.Point) api.Edit {
	return api.Edit{Kind: api.EditJoint, Joint: api.Joint{ID: id, At: p}}
}

func addLead(id, a, b int) api.Edit {
	return api.Edit{Kind: api.EditLead, Lead: api.Lead{ID: id, A: a, B: b}}
}

func split(lead, joint int, p api.Point, other int) api.Edit {
	return api.Edit{Kind: api.EditSplit, Joint: api.Joint{ID: joint, At: p}, Lead: api.Lead{ID: lead}, Other: other}
}

func unjoint(id int) api.Edit {
	return api.Edit{Kind: api.EditUnjoint, Joint: api.Joint{ID: id}}
}

func unlead(id int) api.Edit {
	return api.Edit{Kind: api.EditUnlead, Lead: api.Lead{ID: id}}
}

func merge(lead, joint, other int) api.Edit {
	return api.Edit{Kind: api.EditMerge, Joint: api.Joint{ID: joint}, Lead: api.Lead{ID: lead}, Other: other}
}

// chain is a web with a straight line 1, 2, 3 of leads that are alike, a lead at a right angle, and a bare joint.
func chain() api.Web {
	w := build([]api.Point{at(0, 0), at(2, 0), at(6, 0), at(6, 5), at(9, 9)}, [2]int{1, 2}, [2]int{2, 3}, [2]int{3, 4})
	for k := range w.Leads {
		l := &w.Leads[k]
		l.Heart, l.Left, l.Right, l.Give, l.Cost = 1, 2, 3, 4, 5
	}
	w.Joints[4].ID = 50
	w.Leads[2].ID = 30
	return w
}

// TestApply checks each kind on the chain.
func TestApply(t *testing.T) {
	for name, x := range map[string]struct {
		edit   api.Edit
		change func(*api.Web)
	}{
		"joint between": {addJoint(7, at(1, 1)), func(w *api.Web) { w.Joints = slices.Insert(w.Joints, 4, api.Joint{ID: 7, At: at(1, 1)}) }},
		"joint at last": {addJoint(65535, at(4096, 4096)), func(w *api.Web) { w.Joints = append(w.Joints, api.Joint{ID: 65535, At: at(4096, 4096)}) }},
		"lead between":  {addLead(20, 4, 1), func(w *api.Web) { w.Leads = slices.Insert(w.Leads, 2, api.Lead{ID: 20, A: 4, B: 1}) }},
		"lead at last":  {addLead(31, 50, 4), func(w *api.Web) { w.Leads = append(w.Leads, api.Lead{ID: 31, A: 50, B: 4}) }},
		"bare joint":    {unjoint(50), func(w *api.Web) { w.Joints = w.Joints[:4] }},
		"lead away":     {unlead(2), func(w *api.Web) { w.Leads = slices.Delete(w.Leads, 1, 2) }},
		"merged": {merge(1, 2, 2), func(w *api.Web) {
			w.Joints = slices.Delete(w.Joints, 1, 2)
			w.Leads = slices.Delete(w.Leads, 1, 2)
			w.Leads[0].B = 3
		}},
		"split": {split(2, 8, at(5, 0), 3), func(w *api.Web) {
			w.Joints = slices.Insert(w.Joints, 4, api.Joint{ID: 8, At: at(5, 0)})
			w.Leads[1].B = 8
			w.Leads = slices.Insert(w.Leads, 2, api.Lead{ID: 3, A: 8, B: 3, Heart: 1, Left: 2, Right: 3, Give: 4, Cost: 5})
		}},
		"split into a lesser ID": {split(30, 20, at(6, 1), 10), func(w *api.Web) {
			w.Joints = slices.Insert(w.Joints, 4, api.Joint{ID: 20, At: at(6, 1)})
			w.Leads[2].B = 20
			w.Leads = slices.Insert(w.Leads, 2, api.Lead{ID: 10, A: 20, B: 4, Heart: 1, Left: 2, Right: 3, Give: 4, Cost: 5})
		}},
	} {
		want := chain()
		x.change(&want)
		if after, e := web.Apply(chain(), x.edit); !sameWeb(after, want) || e != api.OK {
			t.Error(name, after, want, e)
		}
	}
}

// TestApplyErrors has edits that are wrong each in one way.
func TestApplyErrors(t *testing.T) {
	fork := chain()
	fork.Leads = append(fork.Leads, api.Lead{ID: 31, A: 50, B: 2})
	uneven := func(change func(l *api.Lead)) api.Web {
		w := chain()
		change(&w.Leads[1])
		return w
	}
	for name, x := range map[string]struct {
		w    api.Web
		edit api.Edit
		want api.Errno
	}{
		"kind 0":                {chain(), api.Edit{}, api.ErrEdit},
		"kind -1":               {chain(), api.Edit{Kind: -1}, api.ErrEdit},
		"kind 7":                {chain(), api.Edit{Kind: 7}, api.ErrEdit},
		"joint 0":               {chain(), addJoint(0, at(1, 1)), api.ErrJoint},
		"joint 65536":           {chain(), addJoint(65536, at(1, 1)), api.ErrJoint},
		"joint twice":           {chain(), addJoint(3, at(1, 1)), api.ErrJoint},
		"point twice":           {chain(), addJoint(7, at(6, 5)), api.ErrJoint},
		"no point":              {chain(), addJoint(7, at(-1, 0)), api.ErrJoint},
		"joint on a lead":       {chain(), addJoint(7, at(1, 0)), api.ErrMeet},
		"lead 0":                {chain(), addLead(0, 1, 4), api.ErrLead},
		"lead 65536":            {chain(), addLead(65536, 1, 4), api.ErrLead},
		"lead twice":            {chain(), addLead(2, 1, 4), api.ErrLead},
		"lead to no joint":      {chain(), addLead(7, 1, 5), api.ErrLead},
		"lead between the same": {chain(), addLead(7, 2, 1), api.ErrLead},
		"lead over a joint":     {chain(), addLead(7, 1, 3), api.ErrMeet},
		"lead across":           {example(), addLead(7, 2, 4), api.ErrMeet},
		"lead of all zeros":     {chain(), api.Edit{Kind: api.EditLead}, api.ErrLead},
		"split no lead":         {chain(), split(3, 8, at(5, 0), 4), api.ErrEdit},
		"split at its A":        {chain(), split(2, 8, at(2, 0), 4), api.ErrEdit},
		"split at its B":        {chain(), split(2, 8, at(6, 0), 4), api.ErrEdit},
		"split beside":          {chain(), split(2, 8, at(5, 1), 4), api.ErrEdit},
		"split before":          {chain(), split(2, 8, at(1, 0), 4), api.ErrEdit},
		"split beyond":          {chain(), split(2, 8, at(7, 0), 4), api.ErrEdit},
		"split off the grid":    {chain(), split(2, 8, at(math.MaxInt, 0), 4), api.ErrEdit},
		"split by joint 0":      {chain(), split(2, 0, at(5, 0), 4), api.ErrJoint},
		"split by a joint":      {chain(), split(2, 4, at(5, 0), 4), api.ErrJoint},
		"split into lead 0":     {chain(), split(2, 8, at(5, 0), 0), api.ErrLead},
		"split into itself":     {chain(), split(2, 8, at(5, 0), 2), api.ErrLead},
		"split into a lead":     {chain(), split(2, 8, at(5, 0), 30), api.ErrLead},
		"no joint to remove":    {chain(), unjoint(6), api.ErrEdit},
		"joint 0 to remove":     {chain(), unjoint(0), api.ErrEdit},
		"joint with one lead":   {chain(), unjoint(1), api.ErrEdit},
		"joint with leads":      {example(), unjoint(5), api.ErrEdit},
		"no lead to remove":     {chain(), unlead(3), api.ErrEdit},
		"lead 0 to remove":      {chain(), unlead(0), api.ErrEdit},
		"merge at no joint":     {chain(), merge(1, 9, 2), api.ErrEdit},
		"merge no lead":         {chain(), merge(9, 2, 2), api.ErrEdit},
		"merge with no lead":    {chain(), merge(1, 2, 9), api.ErrEdit},
		"merge with lead 0":     {chain(), merge(1, 2, 0), api.ErrEdit},
		"merge backwards":       {chain(), merge(2, 2, 1), api.ErrEdit},
		"merge with itself":     {chain(), merge(1, 2, 1), api.ErrEdit},
		"merge at another":      {chain(), merge(1, 3, 2), api.ErrEdit},
		"merge around a corner": {chain(), merge(2, 3, 30), api.ErrEdit},
		"merge at a fork":       {fork, merge(1, 2, 2), api.ErrEdit},
		"other heart":           {uneven(func(l *api.Lead) { l.Heart++ }), merge(1, 2, 2), api.ErrEdit},
		"other left":            {uneven(func(l *api.Lead) { l.Left++ }), merge(1, 2, 2), api.ErrEdit},
		"other right":           {uneven(func(l *api.Lead) { l.Right++ }), merge(1, 2, 2), api.ErrEdit},
		"other give":            {uneven(func(l *api.Lead) { l.Give++ }), merge(1, 2, 2), api.ErrEdit},
		"other cost":            {uneven(func(l *api.Lead) { l.Cost++ }), merge(1, 2, 2), api.ErrEdit},
		"lead ends there twice": {uneven(func(l *api.Lead) { l.A, l.B = l.B, l.A }), merge(1, 2, 2), api.ErrEdit},
	} {
		if after, e := web.Apply(x.w, x.edit); !sameWeb(after, api.Web{}) || e != x.want {
			t.Error(name, after, e)
		}
		if edit, e := web.Inverse(x.w, x.edit); edit != (api.Edit{}) || e != x.want {
			t.Error("inverse:", name, edit, e)
		}
	}
}

// TestApplyFields sets each field that the kind of an edit does not name.
func TestApplyFields(t *testing.T) {
	for _, x := range []struct {
		edit    api.Edit
		unnamed func(e *api.Edit) []*int
	}{
		{addJoint(7, at(1, 1)), func(e *api.Edit) []*int { return append(leadFields(e), &e.Lead.ID, &e.Other) }},
		{addLead(20, 4, 1), func(e *api.Edit) []*int { return []*int{&e.Joint.ID, &e.Joint.At.X, &e.Joint.At.Y, &e.Other} }},
		{split(2, 8, at(5, 0), 4), leadFields},
		{unjoint(50), func(e *api.Edit) []*int {
			return append(leadFields(e), &e.Lead.ID, &e.Joint.At.X, &e.Joint.At.Y, &e.Other)
		}},
		{unlead(2), func(e *api.Edit) []*int {
			return append(leadFields(e), &e.Joint.ID, &e.Joint.At.X, &e.Joint.At.Y, &e.Other)
		}},
		{merge(1, 2, 2), func(e *api.Edit) []*int { return append(leadFields(e), &e.Joint.At.X, &e.Joint.At.Y) }},
	} {
		if _, e := web.Apply(chain(), x.edit); e != api.OK {
			t.Error(x.edit, e)
		}
		for k := range x.unnamed(&x.edit) {
			for _, n := range []int{-1, 1, 2, 5} {
				edit := x.edit
				*x.unnamed(&edit)[k] = n
				if after, e := web.Apply(chain(), edit); !sameWeb(after, api.Web{}) || e != api.ErrEdit {
					t.Error(edit, after, e)
				}
			}
		}
	}
}

// leadFields are the fields of the lead of an edit but for its ID.
func leadFields(e *api.Edit) []*int {
	l := &e.Lead
	return []*int{&l.A, &l.B, &l.Heart, &l.Left, &l.Right, &l.Give, &l.Cost}
}

// TestApplyLimits adds to a web that is full.
func TestApplyLimits(t *testing.T) {
	w := lattice(19, 9)
	for _, e := range []api.Edit{addJoint(300, at(1, 1)), split(1, 300, at(0, 1), 500)} {
		if after, err := web.Apply(w, e); !sameWeb(after, api.Web{}) || err != api.ErrLimit {
			t.Error(e, err)
		}
	}
	w = mostLeads()
	for _, e := range []api.Edit{addLead(500, 1, 2), addLead(0, 0, 0), split(1, 300, at(0, 1), 500)} {
		if after, err := web.Apply(w, e); !sameWeb(after, api.Web{}) || err != api.ErrLimit {
			t.Error(e, err)
		}
	}
}

func TestApplyExamples(t *testing.T) {
	want := example()
	want.Joints = append(want.Joints, api.Joint{ID: 6, At: at(2, 0)})
	want.Leads[0].B = 6
	want.Leads = append(want.Leads, api.Lead{ID: 7, A: 6, B: 2})
	after, e := web.Apply(example(), split(1, 6, at(2, 0), 7))
	if !sameWeb(after, want) || e != api.OK {
		t.Error(after, e)
	}
	if first, e := web.Apply(api.Web{}, addJoint(9, at(0, 0))); !sameWeb(first, api.Web{Joints: []api.Joint{{ID: 9}}}) || e != api.OK {
		t.Error(first, e)
	}
	if none, e := web.Apply(api.Web{Joints: []api.Joint{{ID: 9}}}, unjoint(9)); !sameWeb(none, api.Web{}) || e != api.OK {
		t.Error(none, e)
	}
}

func TestInverse(t *testing.T) {
	odd := api.Edit{Kind: api.EditLead, Lead: api.Lead{ID: 30, A: 3, B: 4, Heart: 1, Left: 2, Right: 3, Give: 4, Cost: 5}}
	for _, x := range []struct{ edit, want api.Edit }{
		{addJoint(7, at(1, 1)), unjoint(7)},
		{addLead(20, 4, 1), unlead(20)},
		{split(2, 8, at(5, 0), 4), merge(2, 8, 4)},
		{unjoint(50), addJoint(50, at(9, 9))},
		{unlead(30), odd},
		{merge(1, 2, 2), split(1, 2, at(2, 0), 2)},
	} {
		if edit, e := web.Inverse(chain(), x.edit); edit != x.want || e != api.OK {
			t.Error(x, edit, e)
		}
	}
}

// thrownEdit returns an edit of a web that often can be applied.
func thrownEdit(d *rand.Rand, w api.Web) api.Edit {
	joint := func() api.Joint { return w.Joints[d.Intn(len(w.Joints))] }
	fresh := func() int { return 1 + d.Intn(60) }
	lead := api.Lead{}
	if len(w.Leads) > 0 {
		lead = w.Leads[d.Intn(len(w.Leads))]
	}
	spot := at(d.Intn(6), d.Intn(6))
	if lead.ID != 0 && d.Intn(2) == 0 {
		a, b := pointOf(w, lead.A), pointOf(w, lead.B)
		spot = at((a.X+b.X)/2, (a.Y+b.Y)/2)
	}
	switch d.Intn(6) {
	case 0:
		return addJoint(fresh(), spot)
	case 1:
		return addLead(fresh(), joint().ID, joint().ID)
	case 2:
		return split(lead.ID, fresh(), spot, fresh())
	case 3:
		return unjoint(joint().ID)
	case 4:
		return unlead(lead.ID)
	}
	for _, l := range w.Leads {
		for _, m := range w.Leads {
			if m.A == l.B && on(pointOf(w, m.A), pointOf(w, l.A), pointOf(w, m.B)) && d.Intn(3) > 0 {
				return merge(l.ID, l.B, m.ID)
			}
		}
	}
	return merge(lead.ID, lead.B, fresh())
}

// wantApply is the chapter's table of edits, for edits without fields that their kind does not name.
func wantApply(w api.Web, e api.Edit) (api.Web, api.Errno) {
	out := copyOf(w)
	lead := slices.IndexFunc(w.Leads, func(l api.Lead) bool { return l.ID == e.Lead.ID })
	joint := slices.IndexFunc(w.Joints, func(j api.Joint) bool { return j.ID == e.Joint.ID })
	other := slices.IndexFunc(w.Leads, func(l api.Lead) bool { return l.ID == e.Other })
	touching := 0
	for _, l := range w.Leads {
		if l.A == e.Joint.ID || l.B == e.Joint.ID {
			touching++
		}
	}
	switch e.Kind {
	case api.EditJoint:
		out.Joints = append(out.Joints, e.Joint)
	case api.EditLead:
		out.Leads = append(out.Leads, e.Lead)
	case api.EditSplit:
		if lead < 0 || !strictlyOn(e.Joint.At, pointOf(w, w.Leads[lead].A), pointOf(w, w.Leads[lead].B)) {
			return api.Web{}, api.ErrEdit
		}
		l := w.Leads[lead]
		out.Joints = append(out.Joints, e.Joint)
		out.Leads[lead].B = e.Joint.ID
		out.Leads = append(out.Leads, api.Lead{ID: e.Other, A: e.Joint.ID, B: l.B, Heart: l.Heart, Left: l.Left, Right: l.Right, Give: l.Give, Cost: l.Cost})
	case api.EditUnjoint:
		if joint < 0 || touching > 0 {
			return api.Web{}, api.ErrEdit
		}
		out.Joints = slices.Delete(out.Joints, joint, joint+1)
	case api.EditUnlead:
		if lead < 0 {
			return api.Web{}, api.ErrEdit
		}
		out.Leads = slices.Delete(out.Leads, lead, lead+1)
	case api.EditMerge:
		if joint < 0 || lead < 0 || other < 0 || touching != 2 || w.Leads[lead].B != e.Joint.ID || w.Leads[other].A != e.Joint.ID {
			return api.Web{}, api.ErrEdit
		}
		l, m := w.Leads[lead], w.Leads[other]
		alike := l.Heart == m.Heart && l.Left == m.Left && l.Right == m.Right && l.Give == m.Give && l.Cost == m.Cost
		if !alike || !on(w.Joints[joint].At, pointOf(w, l.A), pointOf(w, m.B)) {
			return api.Web{}, api.ErrEdit
		}
		out.Leads[lead].B = m.B
		out.Joints = slices.Delete(out.Joints, joint, joint+1)
		out.Leads = slices.Delete(out.Leads, other, other+1)
	}
	slices.SortStableFunc(out.Joints, func(i, j api.Joint) int { return i.ID - j.ID })
	slices.SortStableFunc(out.Leads, func(l, m api.Lead) int { return l.ID - m.ID })
	if err, _ := wantCheck(out); err != api.OK {
		return api.Web{}, err
	}
	return out, api.OK
}

// TestEditsThrown compares Apply with its table, and is the first part of P2.6: an edit and its inverse lead back, and so does the inverse of the inverse.
func TestEditsThrown(t *testing.T) {
	d := rand.New(rand.NewSource(9))
	done := map[int]int{}
	for _, w := range someWebs() {
		if len(w.Joints) == 0 {
			continue
		}
		for range 60 {
			edit := thrownEdit(d, w)
			after, e := web.Apply(w, edit)
			if want, err := wantApply(w, edit); !sameWeb(after, want) || e != err {
				t.Fatal(w, edit, after, e, want, err)
			}
			back, err := web.Inverse(w, edit)
			if err != e {
				t.Fatal("Inverse", w, edit, err, e)
			}
			if e != api.OK {
				continue
			}
			done[edit.Kind]++
			if again, e := web.Apply(after, back); !sameWeb(again, w) || e != api.OK {
				t.Error("way back", w, edit, back, again, e)
			}
			if twice, e := web.Inverse(after, back); twice != edit || e != api.OK {
				t.Error("inverse of the inverse", w, edit, back, twice, e)
			}
			if d.Intn(3) == 0 && len(after.Joints) > 0 {
				w = after
			}
		}
	}
	for kind := 1; kind <= 6; kind++ {
		if done[kind] < 100 {
			t.Error("few edits of kind", kind, done)
		}
	}
}

// outlines returns the outlines of the panes of a sound web.
func outlines(t *testing.T, w api.Web) [][]api.Point {
	t.Helper()
	panes, e := web.Panes(w)
	if e != api.OK {
		t.Error("not sound", w, e)
	}
	var out [][]api.Point
	for _, p := range panes {
		out = append(out, p.Outline)
	}
	return out
}

// TestSplitKeepsOutlines is the second part of P2.6.
func TestSplitKeepsOutlines(t *testing.T) {
	count := 0
	for _, w := range soundWebs() {
		before := outlines(t, w)
		for _, l := range w.Leads {
			for x := range 12 {
				for y := range 12 {
					after, e := web.Apply(w, split(l.ID, 60000, at(x, y), 60001))
					if e != api.OK {
						continue
					}
					count++
					if !slices.EqualFunc(outlines(t, after), before, slices.Equal[[]api.Point]) {
						t.Error(w, l, x, y)
					}
				}
			}
		}
	}
	if count < 100 {
		t.Error("few splits", count)
	}
}

// TestLeadDividesFace is the third part of P2.6.
func TestLeadDividesFace(t *testing.T) {
	count := 0
	for _, w := range soundWebs() {
		walks, _ := web.Walks(w)
		before := outlines(t, w)
		for _, walk := range walks {
			joints := map[int]bool{}
			for _, s := range walk {
				from, _, _ := web.Ends(w, s)
				joints[from.ID] = true
			}
			for a := range joints {
				for b := range joints {
					// A lead may also run through another face, if both joints lie there, too.
					after, e := web.Apply(w, addLead(60000, a, b))
					if a < b && e == api.OK {
						count++
						checkDivided(t, w, after, before)
					}
				}
			}
		}
	}
	if count < 100 {
		t.Error("few leads", count)
	}
}

// checkDivided checks that the lead 60000 has divided one face into two and left the outlines of all other panes.
func checkDivided(t *testing.T, w, after api.Web, before [][]api.Point) {
	t.Helper()
	v, _ := web.Euler(w)
	n, _ := web.Euler(after)
	if n.Faces != v.Faces+1 || n.Components != v.Components {
		t.Error("faces", w, after, n)
	}
	if web.Sound(after) != api.OK { // it may have nested a component, or made too many panes or corners
		return
	}
	left, _ := web.PaneAt(after, fwd(60000))
	right, _ := web.PaneAt(after, back(60000))
	var others [][]api.Point
	for k, l := range outlines(t, after) {
		if k+1 != left && k+1 != right {
			others = append(others, l)
		}
	}
	kept := 0
	for _, l := range others {
		if slices.ContainsFunc(before, func(m []api.Point) bool { return slices.Equal(l, m) }) {
			kept++
		}
	}
	// The divided face was a pane, unless it was the outer one: then one pane is new, and all are left.
	was := 1
	if left == 0 || right == 0 {
		was = 0
	}
	if left == right || kept != len(others) || kept != len(before)-was {
		t.Error("outlines", w, after, left, right, kept)
	}
}

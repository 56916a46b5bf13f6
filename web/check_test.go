package web_test

import (
	"math"
	"math/rand"
	"testing"

	"leadlight/api"
	"leadlight/web"
)

func TestCheckValid(t *testing.T) {
	for _, w := range someWebs() {
		if e, id := web.Check(w); e != api.OK || id != 0 {
			t.Error(w, e, id)
		}
	}
}

// TestCheckFirst checks each reason for an error, and which one comes first.
func TestCheckFirst(t *testing.T) {
	joint := func(k int, j api.Joint) func(*api.Web) { return func(w *api.Web) { w.Joints[k] = j } }
	lead := func(k int, l api.Lead) func(*api.Web) { return func(w *api.Web) { w.Leads[k] = l } }
	for name, x := range map[string]struct {
		change func(*api.Web)
		want   api.Errno
		id     int
	}{
		"joint 0":              {joint(0, api.Joint{}), api.ErrJoint, 0},
		"joint -3":             {joint(0, api.Joint{ID: -3}), api.ErrJoint, -3},
		"joint 65536":          {joint(4, api.Joint{ID: 65536, At: at(4, 2)}), api.ErrJoint, 65536},
		"joint 65535":          {joint(4, api.Joint{ID: 65535, At: at(4, 2)}), api.ErrLead, 2},
		"left of the grid":     {joint(3, api.Joint{ID: 4, At: at(-1, 4)}), api.ErrJoint, 4},
		"below the grid":       {joint(3, api.Joint{ID: 4, At: at(0, -1)}), api.ErrJoint, 4},
		"right of the grid":    {joint(2, api.Joint{ID: 3, At: at(4097, 4)}), api.ErrJoint, 3},
		"above the grid":       {joint(2, api.Joint{ID: 3, At: at(4, 4097)}), api.ErrJoint, 3},
		"far from the grid":    {joint(2, api.Joint{ID: 3, At: at(math.MaxInt, math.MinInt)}), api.ErrJoint, 3},
		"joint twice":          {joint(2, api.Joint{ID: 2, At: at(4, 4)}), api.ErrJoint, 2},
		"joint falls":          {joint(3, api.Joint{ID: 1, At: at(0, 4)}), api.ErrJoint, 1},
		"point twice":          {joint(3, api.Joint{ID: 4, At: at(4, 0)}), api.ErrJoint, 4},
		"lead 0":               {lead(0, api.Lead{ID: 0, A: 1, B: 2}), api.ErrLead, 0},
		"lead -1":              {lead(0, api.Lead{ID: -1, A: 1, B: 2}), api.ErrLead, -1},
		"lead 65536":           {lead(5, api.Lead{ID: 65536, A: 1, B: 5}), api.ErrLead, 65536},
		"lead 65535":           {lead(5, api.Lead{ID: 65535, A: 1, B: 5}), api.OK, 0},
		"no A":                 {lead(1, api.Lead{ID: 2, A: 6, B: 5}), api.ErrLead, 2},
		"no B":                 {lead(1, api.Lead{ID: 2, A: 2, B: 0}), api.ErrLead, 2},
		"one joint":            {lead(2, api.Lead{ID: 3, A: 5, B: 5}), api.ErrLead, 3},
		"heart -1":             {lead(2, api.Lead{ID: 3, A: 5, B: 3, Heart: -1}), api.ErrLead, 3},
		"heart 65":             {lead(2, api.Lead{ID: 3, A: 5, B: 3, Heart: 65}), api.ErrLead, 3},
		"left -1":              {lead(2, api.Lead{ID: 3, A: 5, B: 3, Left: -1}), api.ErrLead, 3},
		"left 65":              {lead(2, api.Lead{ID: 3, A: 5, B: 3, Left: 65}), api.ErrLead, 3},
		"right -1":             {lead(2, api.Lead{ID: 3, A: 5, B: 3, Right: -1}), api.ErrLead, 3},
		"right 65":             {lead(2, api.Lead{ID: 3, A: 5, B: 3, Right: 65}), api.ErrLead, 3},
		"give -1":              {lead(2, api.Lead{ID: 3, A: 5, B: 3, Give: -1}), api.ErrLead, 3},
		"give 65":              {lead(2, api.Lead{ID: 3, A: 5, B: 3, Give: 65}), api.ErrLead, 3},
		"cost -1":              {lead(2, api.Lead{ID: 3, A: 5, B: 3, Cost: -1}), api.ErrLead, 3},
		"cost 1000001":         {lead(2, api.Lead{ID: 3, A: 5, B: 3, Cost: 1000001}), api.ErrLead, 3},
		"greatest numbers":     {lead(2, api.Lead{ID: 3, A: 5, B: 3, Heart: 64, Left: 64, Right: 64, Give: 64, Cost: 1000000}), api.OK, 0},
		"lead twice":           {lead(3, api.Lead{ID: 3, A: 3, B: 4}), api.ErrLead, 3},
		"lead falls":           {lead(3, api.Lead{ID: 2, A: 3, B: 4}), api.ErrLead, 2},
		"same joints":          {lead(5, api.Lead{ID: 6, A: 1, B: 2}), api.ErrLead, 6},
		"same joints back":     {lead(5, api.Lead{ID: 6, A: 2, B: 1}), api.ErrLead, 6},
		"joint on a lead":      {lead(4, api.Lead{ID: 5, A: 2, B: 3}), api.ErrMeet, 5},
		"crossing":             {lead(4, api.Lead{ID: 5, A: 4, B: 2}), api.ErrMeet, 6},
		"joint before point":   {func(w *api.Web) { w.Joints[4].At = at(4, 4); w.Joints[2].ID = 1 }, api.ErrJoint, 1},
		"joint before lead":    {func(w *api.Web) { w.Joints[4].At = at(4, 4); w.Leads[0].A = 9 }, api.ErrJoint, 5},
		"lead before meet":     {func(w *api.Web) { w.Leads[4].A, w.Leads[4].B = 2, 3; w.Leads[5].Give = 65 }, api.ErrLead, 6},
		"a joint that is free": {func(w *api.Web) { w.Joints = append(w.Joints, api.Joint{ID: 9, At: at(2, 1)}) }, api.ErrMeet, 6},
		"first of two meets":   {func(w *api.Web) { w.Joints = append(w.Joints, api.Joint{ID: 9, At: at(2, 0)}); w.Leads[4].B = 2 }, api.ErrMeet, 1},
	} {
		w := example()
		x.change(&w)
		if e, id := web.Check(w); e != x.want || id != x.id {
			t.Error(name, e, id)
		}
	}
}

// TestCheckLimits checks that the greatest web is valid, and that too many joints or leads come before all other errors.
func TestCheckLimits(t *testing.T) {
	w := lattice(19, 9)
	if len(w.Joints) != 200 {
		t.Fatal("joints", len(w.Joints))
	}
	if e, id := web.Check(w); e != api.OK || id != 0 {
		t.Error("200 joints", e, id)
	}
	w.Joints = append(w.Joints, api.Joint{})
	w.Leads[0].A = 0
	if e, id := web.Check(w); e != api.ErrLimit || id != 0 {
		t.Error("201 joints", e, id)
	}
	w = mostLeads()
	if e, id := web.Check(w); e != api.OK || id != 0 {
		t.Error("400 leads", e, id)
	}
	w.Leads = append(w.Leads, api.Lead{})
	w.Joints[0].ID = 0
	if e, id := web.Check(w); e != api.ErrLimit || id != 0 {
		t.Error("401 leads", e, id)
	}
}

// TestCheckThrown compares Check with its rule, on valid webs in which some numbers are changed.
func TestCheckThrown(t *testing.T) {
	d := rand.New(rand.NewSource(5))
	count := map[api.Errno]int{}
	for range 20000 {
		w := thrownWeb(d, 3+d.Intn(3), 7, 30)
		for range d.Intn(4) {
			spoil(d, w)
		}
		e, id := web.Check(w)
		if want, wantID := wantCheck(w); e != want || id != wantID {
			t.Fatal(w, e, id, want, wantID)
		}
		count[e]++
	}
	for _, e := range []api.Errno{api.OK, api.ErrJoint, api.ErrLead, api.ErrMeet} {
		if count[e] < 300 {
			t.Error("few webs", e, count)
		}
	}
}

// spoil changes a number of a web.
func spoil(d *rand.Rand, w api.Web) {
	j := &w.Joints[d.Intn(len(w.Joints))]
	numbers := []*int{&j.ID, &j.At.X, &j.At.Y}
	if len(w.Leads) > 0 && d.Intn(3) > 0 {
		l := &w.Leads[d.Intn(len(w.Leads))]
		numbers = []*int{&l.ID, &l.A, &l.B, &l.A, &l.B, &l.Heart, &l.Left, &l.Right, &l.Give, &l.Cost}
	}
	n := numbers[d.Intn(len(numbers))]
	*n = max(*n+[]int{-2, -1, 1, 2}[d.Intn(4)], -1)
}

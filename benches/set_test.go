package benches_test

import (
	"math/rand"
	"slices"
	"testing"

	"leadlight/api"
	"leadlight/benches"
)

// many are n notes of a bench.
func many(bench, n int) []api.Note {
	return story(bench, 1, 0, slices.Repeat([]api.Note{take(1)}, n)...)
}

// TestCheckSet checks what is a set, and which element is the first wrong one.
func TestCheckSet(t *testing.T) {
	a, b, c := as(take(1), 1, 1, 9, 0), as(take(2), 1, 3, 5, 0), as(take(1), 2, 2, 1, 0)
	other := as(take(5), 1, 3, 7, 0)
	bad := as(take(65), 1, 3, 1, 0)
	wrong := as(take(65), 0, 0, 1, 0)
	for _, x := range []struct {
		l    []api.Note
		want api.Errno
		at   int
	}{
		{nil, api.OK, 0}, {[]api.Note{}, api.OK, 0}, {[]api.Note{c}, api.OK, 0}, {[]api.Note{a, b, c}, api.OK, 0},
		{[]api.Note{a, b, b}, api.ErrFork, 2}, {[]api.Note{a, b, other, c}, api.ErrFork, 2},
		{[]api.Note{b, a}, api.ErrArg, 1}, {[]api.Note{a, c, b}, api.ErrArg, 2}, {[]api.Note{c, a}, api.ErrArg, 1},
		{[]api.Note{bad}, api.ErrNote, 0}, {[]api.Note{wrong}, api.ErrNote, 0}, {[]api.Note{a, bad, c}, api.ErrNote, 1},
		{[]api.Note{a, b, bad}, api.ErrNote, 2}, {[]api.Note{c, bad}, api.ErrNote, 1}, // no note comes ahead of a fork and a wrong order
		{[]api.Note{b, a, bad}, api.ErrArg, 1}, {[]api.Note{a, a, bad}, api.ErrFork, 1}, // but only of one element
		{many(1, 400), api.OK, 0}, {append(many(1, 399), c), api.OK, 0}, {append(many(1, 399), c, c), api.ErrLimit, 0},
		{append(many(1, 400), c), api.ErrLimit, 0}, {make([]api.Note, 401), api.ErrLimit, 0}, {make([]api.Note, 400), api.ErrNote, 0},
	} {
		if e, at := benches.CheckSet(x.l); e != x.want || at != x.at {
			t.Error("CheckSet", x.l, e, at, "want", x.want, x.at)
		}
	}
	for _, l := range thrown() {
		if !isSet(l) {
			t.Error("CheckSet", l)
		}
	}
}

// TestBefore checks the order of effects, of any notes.
func TestBefore(t *testing.T) {
	d := rand.New(rand.NewSource(1))
	for range 3000 {
		a := as(take(d.Intn(9)), d.Intn(3)-1, d.Intn(3), d.Intn(3), d.Intn(3)-1)
		b := as(set(1, 1, api.Setting{}), d.Intn(3)-1, d.Intn(3), d.Intn(3), d.Intn(3)-1)
		if is := benches.Before(a, b); is != (slices.Compare(byYear(a), byYear(b)) < 0) {
			t.Error("Before", a, b, is)
		}
	}
}

// thrownPair throws two sets of which many notes are the same, and one may have another form.
func thrownPair(d thrower) ([]api.Note, []api.Note) {
	all := thrown()[d.Intn(600)]
	a, b := d.part(all), d.part(all)
	if len(b) > 0 && d.Intn(6) == 0 {
		b[d.Intn(len(b))].Year++
	}
	return a, b
}

// wantMerge is the rule of Merge, as far as its limit.
func wantMerge(a, b []api.Note) ([]api.Note, api.Errno) {
	out := slices.Clone(a)
	for _, n := range b {
		k := slices.IndexFunc(a, func(m api.Note) bool { return refOf(m) == refOf(n) })
		switch {
		case k < 0:
			out = append(out, n)
		case !sameValue(a[k], n):
			return nil, api.ErrFork
		}
	}
	return sorted(out, byName), api.OK
}

// TestMerge checks Merge against its rule, and P9.2: it is commutative, associative and idempotent.
func TestMerge(t *testing.T) {
	d := thrower{rand.New(rand.NewSource(2))}
	count := map[api.Errno]int{}
	for range 3000 {
		a, b := thrownPair(d)
		c, _ := thrownPair(d)
		ab, e := benches.Merge(a, b)
		want, f := wantMerge(a, b)
		count[f]++
		if e != f || !sameList(ab, want) {
			t.Error("Merge", a, b, ab, e)
		}
		if ba, e := benches.Merge(b, a); e != f || !sameList(ab, ba) {
			t.Error("Merge is not commutative", a, b, e)
		}
		if aa, e := benches.Merge(a, a); e != api.OK || !sameList(a, aa) {
			t.Error("Merge is not idempotent", a, e)
		}
		bc, g := benches.Merge(b, c)
		left, h := benches.Merge(ab, c)
		right, i := benches.Merge(a, bc)
		if e == api.OK && g == api.OK && (h != i || !sameList(left, right)) {
			t.Error("Merge is not associative", a, b, c, h, i)
		}
	}
	if count[api.OK] < 1000 || count[api.ErrFork] < 50 {
		t.Error("few kinds", count)
	}
}

// TestMergeErrors checks what comes first, and the limit.
func TestMergeErrors(t *testing.T) {
	a, b := many(1, 200), many(2, 200)
	other := slices.Clone(a)
	other[199].Pane = 2
	more := append(slices.Clone(b), as(take(1), 3, 1, 1, 0))
	wrong := []api.Note{a[1], a[0]}
	for _, x := range []struct {
		a, b []api.Note
		want api.Errno
	}{
		{a, b, api.OK}, {a, more, api.ErrLimit}, {a, other, api.ErrFork}, {wrong, a, api.ErrArg}, {a, wrong, api.ErrArg},
		{append(slices.Clone(other), b...), append(slices.Clone(a), more[200]), api.ErrFork}, // ahead of the limit
		{append(slices.Clone(a), b...), append(slices.Clone(b), b[0]), api.ErrArg}, {append(slices.Clone(a), more...), nil, api.ErrArg},
		{nil, nil, api.OK},
	} {
		for _, l := range [][2][]api.Note{{x.a, x.b}, {x.b, x.a}} {
			if out, e := benches.Merge(l[0], l[1]); e != x.want || e != api.OK && out != nil {
				t.Error("Merge", len(l[0]), len(l[1]), e, "want", x.want)
			}
		}
	}
	// notes differ in any field, but not by an empty list instead of none
	for _, n := range append(proper(), corrections()...) {
		same := n
		same.Pieces, same.Item.Panes = append([]int{}, n.Pieces...), append([]int{}, n.Item.Panes...)
		if out, e := benches.Merge([]api.Note{n}, []api.Note{same}); e != api.OK || !sameList(out, []api.Note{n}) {
			t.Error("Merge of the same note", n, e)
		}
		for _, differ := range differences(n) {
			if _, e := benches.Merge([]api.Note{n}, []api.Note{differ}); e != api.ErrFork {
				t.Error("Merge of different notes", n, differ, e)
			}
		}
	}
}

// differences are the well-formed notes that differ from a note in one number, or in a mark.
func differences(n api.Note) []api.Note {
	changes := []change{
		{"Clock", func(n *api.Note) { n.Clock++ }},
		{"Year", func(n *api.Note) { n.Year++ }},
		{"Fix", func(n *api.Note) { n.Fix = api.NoteFind }},
		{"Piece", func(n *api.Note) { n.Piece++ }},
		{"Pane", func(n *api.Note) { n.Pane-- }},
		{"Colour", func(n *api.Note) { n.Colour-- }},
		{"To", func(n *api.Note) { n.To++ }},
		{"Shift", func(n *api.Note) { n.Setting.Shift-- }},
		{"Back", func(n *api.Note) { n.Setting.Back = !n.Setting.Back }},
		{"Ref", func(n *api.Note) { n.Ref.Num-- }},
		{"Ref", func(n *api.Note) { n.Ref.Bench-- }},
		{"Pieces", func(n *api.Note) { n.Pieces = append([]int{1}, n.Pieces...) }},
		{"Panes", func(n *api.Note) { n.Panes = append([]int{1}, n.Panes...) }},
		{"Data", func(n *api.Note) { n.Data = n.Data[:max(0, len(n.Data)-1)] }},
		{"Marks", func(n *api.Note) {
			n.Data = slices.Clone(n.Data)
			for k := range n.Data {
				n.Data[k].Marks = nil
			}
		}},
		{"Item", func(n *api.Note) { n.Item.Slack++ }},
		{"Sights", func(n *api.Note) { n.Item.Sights = append(n.Item.Sights, api.Sight{}) }},
	}
	var out []api.Note
	for _, c := range changes {
		other := n
		c.do(&other)
		if benches.CheckNote(other) == api.OK && !sameValue(n, other) {
			out = append(out, other)
		}
	}
	return out
}

// TestEffective checks Effective against its rule.
func TestEffective(t *testing.T) {
	gone, changed := 0, 0
	for _, l := range thrown() {
		out, e := benches.Effective(l)
		want := wantEffective(l)
		if e != api.OK || !sameList(out, want) {
			t.Error("Effective", l, out, e)
		}
		for _, n := range l {
			k := slices.IndexFunc(want, func(m api.Note) bool { return refOf(m) == refOf(n) })
			switch {
			case k < 0 && isFirst(n):
				gone++
			case k >= 0 && !sameValue(n, want[k]):
				changed++
			}
		}
	}
	if gone < 300 || changed < 300 {
		t.Error("few withdrawals or corrections", gone, changed)
	}
	for _, l := range noSets() {
		if out, e := benches.Effective(l); e != api.ErrArg || out != nil {
			t.Error("Effective", l, out, e)
		}
	}
}

// noSets are lists of notes that are no sets.
func noSets() [][]api.Note {
	a, b := as(take(1), 1, 1, 1, 0), as(take(1), 1, 2, 1, 0)
	return [][]api.Note{{b, a}, {a, a}, {a, as(take(0), 1, 2, 1, 0)}, make([]api.Note, 401), append(many(1, 400), as(take(1), 2, 1, 1, 0))}
}

// TestJudges has the cases that the rule of Effective names: the last judge counts by its clock, and a later correction restores what was withdrawn.
func TestJudges(t *testing.T) {
	first := as(take(1), 2, 1, 5, 1900)
	judge := func(n api.Note, bench, num, clock, year int) api.Note { return as(n, bench, num, clock, year) }
	for name, x := range map[string]struct {
		judges []api.Note
		want   []api.Note
	}{
		"none":                 {nil, []api.Note{first}},
		"withdrawn":            {[]api.Note{judge(withdraw(2, 1), 1, 1, 6, 1901)}, nil},
		"withdrawn earlier":    {[]api.Note{judge(withdraw(2, 1), 1, 1, 1, 1800)}, nil},
		"corrected":            {[]api.Note{judge(correct(2, 1, take(2)), 1, 1, 6, 1899)}, []api.Note{as(take(2), 2, 1, 5, 1899)}},
		"another kind":         {[]api.Note{judge(correct(2, 1, find(9)), 1, 1, 6, 1900)}, []api.Note{as(find(9), 2, 1, 5, 1900)}},
		"withdrawn, corrected": {[]api.Note{judge(withdraw(2, 1), 1, 1, 6, 1905), judge(correct(2, 1, take(1)), 1, 2, 7, 1900)}, []api.Note{first}},
		"corrected, withdrawn": {[]api.Note{judge(correct(2, 1, take(2)), 1, 1, 6, 1905), judge(withdraw(2, 1), 1, 2, 7, 1900)}, nil},
		"by the clock":         {[]api.Note{judge(correct(2, 1, take(2)), 1, 1, 9, 1900), judge(withdraw(2, 1), 1, 2, 8, 1999)}, []api.Note{as(take(2), 2, 1, 5, 1900)}},
		"then by the bench":    {[]api.Note{judge(withdraw(2, 1), 1, 7, 9, 1900), judge(correct(2, 1, take(2)), 3, 1, 9, 1800)}, []api.Note{as(take(2), 2, 1, 5, 1800)}},
		"then by the number":   {[]api.Note{judge(withdraw(2, 1), 1, 7, 9, 1900), judge(correct(2, 1, take(2)), 1, 8, 9, 1800)}, []api.Note{as(take(2), 2, 1, 5, 1800)}},
		"another note":         {[]api.Note{judge(withdraw(2, 2), 1, 1, 6, 1901), judge(withdraw(1, 1), 1, 2, 6, 1901)}, []api.Note{first}},
	} {
		l := sorted(append(x.judges, first), byName)
		if out, e := benches.Effective(l); e != api.OK || !sameList(out, x.want) {
			t.Error(name, out, e)
		}
	}
}

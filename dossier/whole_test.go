package dossier_test

import (
	"slices"
	"strings"
	"testing"

	"leadlight/api"
	"leadlight/benches"
	"leadlight/dossier"
	"leadlight/web"
)

// story throws a script of finds, items, releadings, breakages, swaps, corrections, crashes and lost messages, which ends with settle.
func (d thrower) story(b api.Base, n int) []string {
	lines := baseLines(b, n)
	for range 90 {
		lines = append(lines, d.line(n, b))
	}
	return append(d.convoys(lines, n), "settle")
}

// enquiry returns the questions to a bench, for a year.
func enquiry(bench, year, panes int) []string {
	out := []string{put("conflicts", bench), put("dossier", bench, year), "check", "forced", "target", "disturbed", "steps"}
	for pane := range panes {
		out = append(out, put("content", pane+1))
	}
	for id := range 30 {
		out = append(out, put("where", bench, id), put("stays", bench, id), put("place", id))
	}
	return out
}

// TestOneRegister is P0.8 and P10.5: after settling, all benches know the same, each piece is in exactly one place, and no pane holds two things.
func TestOneRegister(t *testing.T) {
	t.Parallel()
	d := throw(20)
	pieces, conflicts := 0, 0
	for round := range 32 {
		b, n := d.base(), 1+round%4
		_, m := wantRun(strings.Join(d.story(b, n), "\n"))
		notes, _ := m.world.Notes(1)
		r, e := benches.Fold(notes)
		if e != api.OK {
			t.Fatal("Fold", e)
		}
		for bench := 2; bench <= n; bench++ {
			if l, _ := m.world.Notes(bench); !sameValue(l, notes) {
				t.Fatal("a bench knows other notes", bench)
			}
		}
		seen, held := map[int]bool{}, map[int]bool{}
		for k, x := range r.Where {
			if x.Piece != r.Pieces[k].ID || seen[x.Piece] || x.Kind == api.InPane && held[x.At] {
				t.Error("a piece without a place, or with two", r)
			}
			seen[x.Piece] = true
			held[x.At] = held[x.At] || x.Kind == api.InPane
		}
		for _, h := range r.New {
			if held[h.Pane] {
				t.Error("a pane holds two things", r)
			}
			held[h.Pane] = true
		}
		if len(r.Where) != len(r.Pieces) {
			t.Error("pieces without a place", r)
		}
		pieces += len(r.Pieces)
		conflicts += len(r.Conflicts)
	}
	if pieces < 80 || conflicts < 15 {
		t.Error("few pieces", pieces, conflicts)
	}
}

// TestWhole is P0.9 and P10.5: after settling, all benches make one dossier of one job; nothing is wrong with it, and what it says is true.
func TestWhole(t *testing.T) {
	t.Parallel()
	d := throw(21)
	count := map[api.Errno]int{}
	for round := range 40 {
		b, n, year := d.base(), 1+round%3, d.Intn(4)
		panes, _ := web.Panes(b.Panel.Web)
		lines := d.story(b, n)
		_, m := wantRun(strings.Join(lines, "\n"))
		first := len(lines)
		for bench := range n {
			lines = append(lines, enquiry(bench+1, year, len(panes))...)
		}
		// Only so many lines are read.
		lines = lines[:min(len(lines), api.MaxLines)]
		out := runLines(lines)
		one := out[first:min(len(out), first+7+len(panes)+90)]
		for at := first; at < len(lines); at += len(one) {
			if l := out[at:min(len(out), at+len(one))]; !slices.Equal(l, one[:len(l)]) {
				t.Fatal("a bench says something else", lines, l, one)
			}
		}
		job, e := jobOf(m, year)
		if e != api.OK {
			continue
		}
		x := build(t, job)
		count[x.Trouble]++
		if one[2] != "findings" {
			t.Fatal("something is wrong", lines, one[2])
		}
		tellsTruth(t, x)
		if x.Trouble == api.OK {
			carryOut(t, m, lines[:first], year, x)
		}
	}
	if count[api.OK] < 10 || count[api.ErrAgree] < 1 || count[api.ErrGlass]+count[api.ErrClose]+count[api.ErrLift] < 5 {
		t.Error("few dossiers", count)
	}
}

// jobOf is the job of what the bench 1 of a model knows.
func jobOf(m *model, year int) (api.Job, api.Errno) {
	notes, _ := m.world.Notes(1)
	r, _ := benches.Fold(notes)
	return dossier.JobOf(m.base, r, year)
}

// carryOut carries a plan out by commands, step by step, and checks that the panes hold its target then. That is left out if a piece is at another bench, or the script would be too long.
func carryOut(t *testing.T, m *model, lines []string, year int, d api.Dossier) {
	t.Helper()
	notes, _ := m.world.Notes(1)
	r, _ := benches.Fold(notes)
	target, _ := dossier.Target(d)
	for _, h := range target {
		at, _ := benches.WhereIs(r, h.Piece)
		if h.Piece > 0 && at.Kind != api.InPane && (at.Kind != api.AtBench || at.At != 1) {
			return
		}
	}
	lines = slices.Clone(lines)
	for _, s := range d.Plan.Steps {
		h := target[max(s.Pane, 1)-1]
		switch {
		case s.Kind == api.StepOut:
			lines = append(lines, put("take", 1, api.MaxYear, s.Pane)) // an error, if the pane is empty
		case s.Kind == api.StepIn && h.Piece > 0:
			lines = append(lines, put("set", 1, api.MaxYear, h.Pane, h.Piece, h.Setting.Shift, h.Setting.Back))
		case s.Kind == api.StepIn:
			lines = append(lines, put("glass", 1, api.MaxYear, h.Pane, h.Colour))
		}
	}
	lines = append(lines, "settle", put("dossier", 1, year), "check")
	if len(lines) > api.MaxLines {
		return
	}
	out := runLines(lines)
	if l := out[len(out)-2:]; !slices.Equal(l, []string{"plan 0", "findings"}) {
		t.Error("after the plan", lines, l)
	}
	_, after := wantRun(strings.Join(lines, "\n"))
	j, e := jobOf(after, year)
	if e != api.OK || !slices.Equal(j.Found, target) {
		t.Error("what the panes hold after the plan", lines, j.Found, target, e)
	}
}

// TestAnyArguments is R1: whatever the arguments are, each function returns.
func TestAnyArguments(t *testing.T) {
	d := throw(22)
	letters := []byte("joint lead begin piece find 0123456789-\n\n  \x00\xff")
	for range 300 {
		b := make([]byte, d.Intn(200))
		for i := range b {
			b[i] = letters[d.Intn(len(letters))]
		}
		lines, out := strings.Count(string(b), "\n"), strings.Count(string(dossier.Run(b)), "\n")
		if len(b) > 0 && b[len(b)-1] != '\n' {
			lines++
		}
		if lines != out {
			t.Errorf("%q gives %d lines", b, out)
		}
		if _, e := dossier.Decode(b); e != api.ErrBytes {
			t.Error("Decode", b, e)
		}
	}
	long := chain(65536)
	deepest := build(t, example())
	for _, d := range []api.Dossier{{Job: deepest.Job, Survey: long}, {Job: deepest.Job, Survey: deepest.Survey, Alone: long, Proof: asProof(long)}, {Survey: long, Alone: long, Proof: asProof(long)}} {
		if l := dossier.Check(d); len(l) == 0 {
			t.Error("Check of long trees", l)
		}
	}
	for _, n := range extremes() {
		odd := api.Dossier{Job: example(), Trouble: api.Errno(n), Bound: n, Clash: []int{n}, Hits: [][]int{{n}}, Choices: []api.Choice{{Pane: n, Witness: []int{n, n}}}}
		odd.Survey, odd.Alone, odd.Proof = api.Node{Kind: n, Index: n}, api.Node{Kind: n}, api.Proof{Kind: n, Index: n}
		odd.Plan = api.Plan{Cost: n, Filling: make([]api.Option, 2), Set: []int{n}}
		answers(t, odd, map[[2]int]int{})
		if l := dossier.Check(odd); len(l) != 1 || l[0].Kind != api.FindSurvey {
			t.Error("Check", l)
		}
		back, e := dossier.Parts(odd)
		if len(back) != 8 || e != api.OK {
			t.Error("Parts", e)
		}
		script := baseLines(pairBase(), 2)
		first := len(script)
		for _, v := range []int{max(min(n, 1000000000), -1000000000), 0, -1, 65536} {
			for word := range strings.FieldsSeq("piece mark fix find photo rubbing inventory kept paint survivors face relead send got set glass take break withdraw sync ask deliver lose double arrive crash where asof stays conflicts dossier content place") {
				for size := range 15 {
					if l := slices.Repeat([]int{v}, size); allowed(word, l) {
						script = append(script, put(word, l))
						break
					}
				}
			}
		}
		for k, s := range runLines(script) {
			if k >= first && !strings.HasPrefix(s, "error ") && !slices.Contains([]string{"fix", "conflicts", "crash"}, strings.Fields(script[k])[0]) {
				t.Errorf("%q gives %q", script[k], s)
			}
		}
	}
}

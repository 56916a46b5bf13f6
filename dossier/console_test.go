package dossier_test

import (
	"fmt"
	"slices"
	"strings"
	"testing"

	"leadlight/api"
	"leadlight/dossier"
	"leadlight/web"
)

// baseLines are the commands for a base, and begin.
func baseLines(b api.Base, benches int) []string {
	var out []string
	add := func(word string, l ...any) { out = append(out, put(word, l...)) }
	for _, j := range b.Panel.Web.Joints {
		add("joint", j.ID, j.At.X, j.At.Y)
	}
	for _, l := range b.Panel.Web.Leads {
		add("lead", l.ID, l.A, l.B, l.Heart, l.Left, l.Right, l.Give, l.Cost)
	}
	add("open", b.Panel.Open)
	for _, p := range b.Panel.Pins {
		add("pin", p.Joint, p.Play)
	}
	add("palette", b.Palette)
	for _, f := range b.Films {
		add("film", f.ID, f.Grey)
	}
	for _, s := range b.Sheets {
		add("sheet", s.ID, s.Colour, s.W, s.H, s.Grain)
	}
	add("bite", b.Bite)
	add("prices", b.Turn, b.Move, b.New)
	add("begin", benches)
	return out
}

// runLines runs lines, and returns what they give.
func runLines(lines []string) []string {
	out := string(dossier.Run([]byte(strings.Join(lines, "\n"))))
	return strings.Split(strings.TrimSuffix(out, "\n"), "\n")
}

// talk runs lines behind those for a base of two panes with n benches, and checks what they give.
func talk(t *testing.T, n int, lines ...[2]string) {
	t.Helper()
	b := pairBase()
	b.Films = append(b.Films, api.Film{ID: 2, Grey: []int{200, 10}})
	script := baseLines(b, n)
	first := len(script)
	for _, l := range lines {
		script = append(script, l[0])
	}
	got := runLines(script)
	if len(got) != len(script) {
		t.Fatal("lines", len(got), len(script))
	}
	for k, s := range got {
		want := "ok"
		if k >= first {
			want = lines[k-first][1]
		}
		if s != want {
			t.Errorf("%q gives %q, want %q", script[k], s, want)
		}
	}
}

// square is the end of the command piece for a square that fits the panes.
const square = " 0 0 4 0 4 4 0 4"

// TestLines checks which lines there are, and what they give.
func TestLines(t *testing.T) {
	for _, x := range [][2]string{
		{"", ""}, {"\n", "\n"}, {"\n\n", "\n\n"}, {"open", "ok\n"}, {"open\n", "ok\n"}, {"open\n\n", "ok\n\n"}, {"\nopen", "\nok\n"}, {"open\n\nopen", "ok\n\nok\n"},
		{"begin 1\njoint 1 0 0", "error 100\nok\n"}, {"begin 1\njoint 1 0 0\n", "error 100\nok\n"},
		{"joint 01 0 0", "error 103\n"}, {"open\r\n", "error 103\n"}, {" ", "error 103\n"}, {"nonsense", "error 103\n"}, {"joint 1 0", "error 103\n"}, {"joint 1 0 0 0", "error 103\n"}, {"joints 1 0 0", "error 103\n"},
		{"settle", "error 104\n"}, {"settle 1", "error 103\n"}, {"check", "error 104\n"}, {"fix 1 1", "error 104\n"}, {"set 1 1 1 1 1 2", "error 104\n"}, {"find 1 1 1", "error 104\n"}, {"inventory 1 1 1 1 1 1 1", "error 103\n"},
		{strings.Repeat("\n", 400), strings.Repeat("\n", 400)}, {strings.Repeat("\n", 401), strings.Repeat("\n", 400)}, {strings.Repeat("open\n", 400) + "open", strings.Repeat("ok\n", 400)},
		{strings.Repeat("\n", 399) + "open", strings.Repeat("\n", 399) + "ok\n"}, {strings.Repeat("\n", 400) + "open", strings.Repeat("\n", 400)},
		{strings.Repeat("a", 65536), "error 103\n"}, {strings.Repeat("a", 65537), "error 2\n"}, {strings.Repeat("\n", 65536), strings.Repeat("\n", 400)}, {strings.Repeat("\n", 65537), "error 2\n"},
	} {
		script := []byte(x[0])
		if got := string(dossier.Run(script)); got != x[1] || string(script) != x[0] {
			t.Errorf("Run of %.80q: %.80q, want %.80q", x[0], got, x[1])
		}
	}
}

// TestBeforeBegin checks the table Before begin.
func TestBeforeBegin(t *testing.T) {
	lines := [][2]string{
		{"palette 99", "ok"}, {"begin 1", "error 100"}, {"unjoint 1", "error 3"}, {"unlead 0", "error 3"}, {"joint 0 0 0", "error 20"}, {"joint 2 0 0", "ok"}, {"joint 1 4 0", "ok"}, {"joint 1 9 9", "error 20"},
		{"lead 1 1 2 0 2 2 1 3", "ok"}, {"unjoint 1", "error 25"}, {"lead 2 1 3 0 2 2 1 3", "error 21"}, {"unlead 1", "ok"}, {"unjoint 1", "ok"}, {"joint 1 4 0", "ok"},
		{"lead 1 2 1 0 2 2 1 3", "ok"}, {"joint 3 4 4", "ok"}, {"lead 2 1 3 0 2 2 1 3", "ok"}, {"lead 3 3 2 0 2 2 1 3", "ok"}, {"joint 4 2 1", "ok"}, {"begin 1", "error 100"}, {"unjoint 4", "ok"}, {"split 1 9 2 0 7", "ok"},
		{"split 1 9 2 0 7", "error 25"}, {"split 1 9 2 0", "error 103"}, {"open 4", "ok"}, {"open 7 1", "ok"}, {"pin 2 0", "ok"}, {"palette 1", "ok"}, {"begin 1", "error 100"}, {"open 1 7", "ok"},
		{"begin 0", "error 1"}, {"begin 9", "error 1"}, {"begin -1", "error 1"}, {"film 1", "error 103"}, {"film 1 5", "ok"}, {"film 2 5 6", "ok"}, {"sheet 1 1 4 4 0", "ok"}, {"bite 2", "ok"}, {"prices 1 2 3", "ok"},
		{"check", "error 104"}, {"sync 1", "error 104"}, {"begin 8", "ok"}, {"begin 8", "error 104"}, {"joint 1 4 0", "error 104"}, {"unjoint 77", "error 104"}, {"open", "error 104"}, {"pin 1 1", "error 104"}, {"palette 1", "error 104"},
		{"film 1 1", "error 104"}, {"sheet 1 1 1 1 1", "error 104"}, {"bite 1", "error 104"}, {"prices 1 1 1", "error 104"}, {"split 1 1 1 1 1", "error 104"}, {"lead 1 1 1 1 1 1 1 1", "error 104"}, {"unlead 1", "error 104"}, {"unlead", "error 103"},
		{"sync 8", "ok"}, {"sync 9", "error 1"}, {"dossier 1 1900", "plan 15"}, {"content 1", "content 0 0 0 1"}, {"content 2", "error 3"},
	}
	var script []string
	for _, l := range lines {
		script = append(script, l[0])
	}
	for k, s := range runLines(script) {
		if s != lines[k][1] {
			t.Errorf("%d: %q gives %q, want %q", k, lines[k][0], s, lines[k][1])
		}
	}
}

// TestFirstBase checks the base with which the console begins.
func TestFirstBase(t *testing.T) {
	script := baseLines(pairBase(), 1)
	keep := func(s string) bool {
		return slices.Contains([]string{"joint", "lead", "pin", "begin"}, strings.Fields(s)[0])
	}
	script = slices.DeleteFunc(script, func(s string) bool { return !keep(s) })
	script = append(script, "glass 1 1900 1 1", "glass 1 1900 2 1", "dossier 1 1900", "content 2", "disturbed", "photo 1 1900 1 1900 1 1 0 255", "dossier 1 1900", "forced")
	want := slices.Repeat([]string{"ok"}, len(script)-8)
	want = append(want, "ok 1", "ok 2", "plan 0", "content 0 0 0 1", "panes leads", "ok 3", "plan 0", "forced 1 0 0 0 1 2 0 0 0 1")
	if got := runLines(script); !slices.Equal(got, want) {
		t.Errorf("got %q, want %q", got, want)
	}
}

// TestDrafts checks the table Drafts.
func TestDrafts(t *testing.T) {
	talk(t, 2,
		[2]string{"piece 9 1 2 1300 0 0 0 0 4 0 4", "error 103"}, [2]string{"piece 9 1 2 1300 0 0 0 0 4 0", "error 103"}, [2]string{"piece 9 1 2 1300 0 0 0 0 4 0 0 0", "error 1"},
		[2]string{"piece 9 1 2 1300 0 -1" + square, "error 1"}, [2]string{"piece 9 1 2 1300 0 33554433" + square, "error 1"}, [2]string{"piece 9 17 2 1300 0 0" + square, "error 30"}, [2]string{"piece 0 1 2 1300 0 0" + square, "error 30"},
		[2]string{"mark 9 0 4 1", "error 3"}, [2]string{"find 1 1900 9", "error 3"}, [2]string{"find 3 1900 9", "error 3"}, [2]string{"piece 9 1 2 1300 0 0" + square, "ok"}, [2]string{"piece 9 17 2 1300 0 0" + square, "error 30"},
		[2]string{"mark 9 4 4 1", "error 30"}, [2]string{"mark 9 3 4 1", "ok"}, [2]string{"mark 9 0 4 2", "ok"}, [2]string{"mark 9 0 4 1", "ok"}, [2]string{"mark 9 0 4 1", "error 30"}, [2]string{"mark 9 0 3 5", "ok"}, [2]string{"mark 9 0 17 1", "error 30"},
		[2]string{"find 3 1900 9", "error 1"}, [2]string{"find 2 1900 9", "error 90"}, [2]string{"find 1 1900 9", "ok 1"}, [2]string{"find 1 1900 9", "error 94"},
		[2]string{"rubbing 1 1900 1 1900 1 0 0 16 3 3", "ok 2"}, [2]string{"dossier 1 1900", "plan 28"}, [2]string{"content 1", "content 9 0 0 1 9 0 1 2 0 0 0 1 0 0 0 2"},
		// A draft that is replaced is not the piece that was found.
		[2]string{"piece 9 2 2 1300 0 0" + square, "ok"}, [2]string{"mark 9 0 3 5", "ok"}, [2]string{"dossier 1 1900", "plan 28"}, [2]string{"content 1", "content 9 0 0 1 9 0 1 2 0 0 0 1 0 0 0 2"},
		[2]string{"fix 1 1", "ok"}, [2]string{"find 1 1900 9", "ok 3"}, [2]string{"dossier 1 1900", "plan 28"}, [2]string{"content 1", "content 0 0 0 1 0 0 0 2"},
	)
}

// TestFix checks for which command a fix holds.
func TestFix(t *testing.T) {
	talk(t, 2,
		[2]string{"piece 9 1 2 1300 0 0" + square, "ok"}, [2]string{"piece 17 1 2 1300 0 0" + square, "ok"}, [2]string{"find 1 1900 9", "ok 1"}, [2]string{"kept 1 1900 1 1900 9 1", "ok 2"},
		// got, withdraw and what is no such command leave the fix.
		[2]string{"fix 1 2", "ok"}, [2]string{"got 1 1900 1 2", "error 94"}, [2]string{"withdraw 1 1900 1 2", "ok 3"}, [2]string{"where 1 9", "bench 1"}, [2]string{"kept 1 1900 1 1900", "error 103"}, [2]string{"inventory 1 1900 1 1900 0 0 2 1", "error 103"},
		[2]string{"piece 25 1 2 1300 0 0" + square, "ok"}, [2]string{"settle", "ok"}, [2]string{"place 9", "error 104"}, [2]string{"kept 1 1900 9 1900 9 2", "ok 4"}, [2]string{"dossier 1 1900", "plan 28"}, [2]string{"place 9", "place 0 2"},
		// It is gone now.
		[2]string{"kept 1 1900 9 1900 9", "error 94"}, [2]string{"kept 1 1900 17 1900 9", "ok 5"}, [2]string{"dossier 1 1900", "clash 9 17"},
		// A command that fails uses it up, too.
		[2]string{"fix 1 5", "ok"}, [2]string{"find 1 1900 33", "error 3"}, [2]string{"kept 1 1900 25 1900 17 1", "ok 6"}, [2]string{"fix 1 5", "ok"}, [2]string{"set 1 1900 1 9 0 2", "error 1"}, [2]string{"face 1 1900 33 1900 1", "ok 7"}, [2]string{"dossier 1 1900", "clash 9 17"},
		// The later one of two holds; what they name need not be there.
		[2]string{"fix 1 1", "ok"}, [2]string{"fix 1 5", "ok"}, [2]string{"face 1 1900 41 1900 2", "ok 8"}, [2]string{"where 1 9", "bench 1"}, [2]string{"conflicts 1", "conflicts"}, [2]string{"dossier 1 1900", "plan 28"},
		[2]string{"fix 0 0", "ok"}, [2]string{"take 1 1900 1", "error 90"}, [2]string{"fix -5 1000000000", "ok"}, [2]string{"glass 1 1900 1 1", "error 90"}, [2]string{"fix 2 1", "ok"}, [2]string{"glass 1 1900 1 1", "error 94"}, [2]string{"glass 1 1900 1 1", "ok 9"},
		// Each kind of note can be a correction.
		[2]string{"fix 1 9", "ok"}, [2]string{"set 1 1900 1 9 3 1", "ok 10"}, [2]string{"where 1 9", "pane 1 3 1"}, [2]string{"fix 1 9", "ok"}, [2]string{"send 1 1900 2 9", "ok 11"}, [2]string{"where 1 9", "tray 1 9"}, [2]string{"arrive 0", "error 3"},
		[2]string{"fix 1 9", "ok"}, [2]string{"break 1 1900 9 25 33", "error 3"}, [2]string{"fix 1 9", "ok"}, [2]string{"break 1 1900 9 17 25", "ok 12"}, [2]string{"where 1 9", "broken"}, [2]string{"where 1 25", "bench 1"},
		[2]string{"fix 1 9", "ok"}, [2]string{"relead 1 1900 1", "ok 13"}, [2]string{"where 1 9", "bench 1"}, [2]string{"where 1 25", "error 3"}, [2]string{"fix 1 9", "ok"}, [2]string{"find 1 1900 17", "ok 14"}, [2]string{"where 1 17", "bench 1"},
		[2]string{"fix 1 9", "ok"}, [2]string{"take 1 1900 1", "ok 15"}, [2]string{"conflicts 1", "conflicts 1 9"}, [2]string{"fix 1 9", "ok"}, [2]string{"relead 1 1900", "error 90"},
	)
}

// TestNotes checks the table Notes.
func TestNotes(t *testing.T) {
	talk(t, 2,
		[2]string{"piece 9 1 2 1300 0 0" + square, "ok"}, [2]string{"piece 17 2 1 1300 0 0" + square, "ok"}, [2]string{"piece 10 1 1 1300 0 0" + square, "ok"}, [2]string{"find 1 1900 9", "ok 1"}, [2]string{"find 2 1900 10", "ok 1"}, [2]string{"find 1 10000 17", "error 90"},
		[2]string{"photo 1 1900 1 1900 1 1 0 50", "ok 2"}, [2]string{"photo 1 1900 9 1900 1 1 0 50 2 100 255", "ok 3"}, [2]string{"photo 1 1900 17 1900 1 1 0 50 2", "error 103"}, [2]string{"photo 1 1900 17 1900 1 1 0 50 2 100", "error 103"}, [2]string{"photo 1 1900 1 1900 1 1 0 50", "error 94"},
		[2]string{"photo 1 1900 2 1900 1 1 0 50", "error 90"}, [2]string{"settle", "ok"}, [2]string{"dossier 2 1900", "plan 25"}, [2]string{"content 2", "content 9 0 1 2 9 1 1 2 9 2 1 2 9 3 1 2 0 0 0 2"},
		[2]string{"withdraw 1 1900 1 3", "ok 4"}, [2]string{"withdraw 1 1900 1 2", "ok 5"}, [2]string{"rubbing 1 1900 17 1900 1 0 0 16 1 2", "ok 6"}, [2]string{"rubbing 1 1900 25 1900 1 0 0 16 1 2 3", "error 103"}, [2]string{"rubbing 1 1900 25 1900 1 0 0 16 1 2 2 3 0 16 0 0", "ok 7"},
		[2]string{"dossier 1 1900", "plan 28"}, [2]string{"content 1", "content 0 0 0 1 0 0 0 2"}, [2]string{"withdraw 1 1900 1 6", "ok 8"}, [2]string{"withdraw 1 1900 1 7", "ok 9"}, [2]string{"place 9", "place 1 2"},
		[2]string{"inventory 1 1900 33 1900 1 1 2 1 2 2", "ok 10"}, [2]string{"inventory 1 1900 41 1900 1 1 0", "ok 11"}, [2]string{"inventory 1 1900 41 1900 1 1 -1 2", "error 103"}, [2]string{"inventory 1 1900 41 1900 1 1 2 2", "error 103"}, [2]string{"inventory 1 1900 49 1900 1 1 1 2", "ok 12"},
		[2]string{"paint 1 1900 57 1900 7 16", "ok 13"}, [2]string{"survivors 1 1900 65 1900 0 0 1 2", "ok 14"}, [2]string{"survivors 1 1900 73 1900 0 0", "ok 15"}, [2]string{"face 1 1900 81 1900 2", "ok 16"}, [2]string{"face 1 1900 89 1900", "ok 17"}, [2]string{"kept 1 1900 97 1900 9", "ok 18"},
		[2]string{"dossier 1 1900", "trouble 83"}, [2]string{"content 1", "content 0 0 0 1 0 0 0 2"}, [2]string{"relead 1 1950 1 2", "ok 19"}, [2]string{"relead 1 1950 2 1", "error 90"}, [2]string{"relead 1 1950", "error 90"}, [2]string{"dossier 1 2000", "plan 25"},
		[2]string{"set 1 1900 1 9 5 1", "ok 20"}, [2]string{"where 1 9", "pane 1 5 1"}, [2]string{"set 1 1900 2 9 0 0", "error 94"}, [2]string{"set 2 1900 2 10 0 0", "error 94"}, [2]string{"set 1 1900 2 0 0 0", "error 90"}, [2]string{"set 1 1900 2 9 24 0", "error 90"}, [2]string{"set 1 1900 2 9 0 -1", "error 1"}, [2]string{"set 9 1900 2 9 0 2", "error 1"},
		[2]string{"glass 1 1900 1 1", "error 94"}, [2]string{"glass 1 1900 2 2", "ok 21"}, [2]string{"glass 1 1900 2 0", "error 90"}, [2]string{"take 1 1900 2", "ok 22"}, [2]string{"take 1 1900 2", "error 94"}, [2]string{"take 1 1900 1", "ok 23"}, [2]string{"take 2 1900 1", "error 94"},
		[2]string{"send 1 1900 2", "error 90"}, [2]string{"send 1 1900 1 9", "error 94"}, [2]string{"send 1 1900 2 9", "ok 24"}, [2]string{"where 1 9", "tray 1 24"}, [2]string{"got 2 1900 1 24", "error 94"}, [2]string{"arrive 0", "ok"}, [2]string{"got 2 1900 1 24", "ok 2"}, [2]string{"where 2 9", "bench 2"}, [2]string{"where 1 9", "tray 1 24"},
		[2]string{"break 2 1900 9", "error 90"}, [2]string{"break 2 1900 9 10", "error 94"}, [2]string{"piece 18 1 1 1300 0 0" + square, "ok"}, [2]string{"piece 26 1 1 1300 0 0" + square, "ok"}, [2]string{"break 2 1900 9 26 18", "error 90"}, [2]string{"break 2 1900 9 18 99", "error 3"}, [2]string{"break 7 1900 9 18 99", "error 3"},
		[2]string{"break 2 1900 9 18 26", "ok 3"}, [2]string{"where 2 9", "broken"}, [2]string{"where 2 26", "bench 2"}, [2]string{"withdraw 2 1900 0 1", "error 90"}, [2]string{"withdraw 2 1900 2 3", "ok 4"}, [2]string{"where 2 9", "bench 2"}, [2]string{"where 2 26", "error 3"}, [2]string{"withdraw 3 1900 2 3", "error 1"},
	)
}

// TestItems checks which number of a command is which one of its item.
func TestItems(t *testing.T) {
	talk(t, 1,
		[2]string{"photo 1 1900 1 1850 2 1 150 255", "ok 1"}, [2]string{"dossier 1 1850", "trouble 83"}, [2]string{"content 1", "content 0 0 0 1"}, [2]string{"content 2", "content 0 0 0 1 0 0 0 2"},
		[2]string{"withdraw 1 1900 1 1", "ok 2"}, [2]string{"piece 9 1 2 1300 0 0" + square, "ok"}, [2]string{"mark 9 3 4 1", "ok"}, [2]string{"find 1 1900 9", "ok 3"},
		[2]string{"rubbing 1 1900 9 1850 1 3 4 5 1 2", "ok 4"}, [2]string{"dossier 1 1850", "plan 28"}, [2]string{"content 1", "content 9 0 0 1 0 0 0 1 0 0 0 2"},
		[2]string{"fix 1 4", "ok"}, [2]string{"rubbing 1 1900 9 1850 1 3 3 4 0 0", "ok 5"}, [2]string{"dossier 1 1850", "plan 28"}, [2]string{"content 1", "content 9 0 1 2 9 1 0 1 9 1 1 2 9 2 0 1 9 2 1 2 9 3 0 1 9 3 1 2 0 0 0 1 0 0 0 2"},
		[2]string{"withdraw 1 1900 1 4", "ok 6"}, [2]string{"piece 17 1 2 1300 0 0" + square, "ok"}, [2]string{"mark 17 1 10 1", "ok"}, [2]string{"find 1 1900 17", "ok 7"},
		// The piece 17 is in pane 1, where its edge 1 lies along the lead 7, and the piece 9 in pane 2 with its edge 3.
		[2]string{"kept 1 1900 17 1850 17 1", "ok 8"}, [2]string{"kept 1 1900 25 1850 9 2", "ok 9"}, [2]string{"face 1 1900 33 1850 1 2", "ok 10"}, [2]string{"paint 1 1900 41 1850 7 1", "ok 11"},
		[2]string{"dossier 1 1850", "plan 25"}, [2]string{"content 1", "content 17 1 0 1 17 2 0 1 17 3 0 1"}, [2]string{"content 2", "content 9 1 0 1 9 2 0 1 9 3 0 1"},
		[2]string{"fix 1 11", "ok"}, [2]string{"paint 1 1900 41 1850 7 2", "ok 12"}, [2]string{"dossier 1 1850", "plan 25"}, [2]string{"content 1", "content 17 0 0 1 17 1 0 1 17 2 0 1 17 3 0 1"},
		[2]string{"relead 1 1851 1", "ok 13"}, [2]string{"dossier 1 1850", "plan 25"}, [2]string{"content 2", "content 9 0 0 1 9 1 0 1 9 2 0 1 9 3 0 1"},
		[2]string{"dossier 1 1851", "plan 25"}, [2]string{"forced", "error 3"}, [2]string{"content 1", "content 17 0 0 1 17 0 1 2 17 1 0 1 17 1 1 2 17 2 0 1 17 2 1 2 17 3 0 1 17 3 1 2 0 0 0 1 0 0 0 2"},
		[2]string{"withdraw 1 1900 1 10", "ok 14"}, [2]string{"inventory 1 1900 49 1851 0 1 2 1 2 2", "ok 15"}, [2]string{"survivors 1 1900 57 1851 1 2 1 2", "ok 16"}, [2]string{"dossier 1 1851", "plan 25"},
		[2]string{"fix 1 16", "ok"}, [2]string{"survivors 1 1900 57 1851 0 0 1", "ok 17"}, [2]string{"dossier 1 1851", "plan 28"}, [2]string{"content 1", "content 0 0 0 1 0 0 0 2"},
		[2]string{"fix 1 15", "ok"}, [2]string{"inventory 1 1900 49 1851 1 1 1 1 2", "ok 18"}, [2]string{"dossier 1 1851", "trouble 83"}, [2]string{"content 1", "content 0 0 0 2"},
	)
}

// TestWorldCommands checks the table The world.
func TestWorldCommands(t *testing.T) {
	talk(t, 3,
		[2]string{"face 1 1900 1 1900 1", "ok 1"}, [2]string{"crash 1 0 -1", "ok"}, [2]string{"face 1 1900 1 1900 1", "ok 1"}, [2]string{"crash 1 1000 -1", "error 1"}, [2]string{"crash 4 0 -1", "error 1"}, [2]string{"crash 1 3 0", "ok"}, [2]string{"face 1 1900 1 1900 1", "ok 1"},
		[2]string{"sync 1", "ok"}, [2]string{"sync 0", "error 1"}, [2]string{"crash 1 0 -1", "ok"}, [2]string{"face 1 1900 1 1900 1", "error 94"}, [2]string{"face 1 1900 9 1900 1", "ok 2"},
		[2]string{"ask 2 2", "error 1"}, [2]string{"ask 2 4", "error 1"}, [2]string{"ask 2 1", "ok"}, [2]string{"ask 3 1", "ok"}, [2]string{"double 1", "ok"}, [2]string{"double 3", "error 3"}, [2]string{"lose 1", "ok"}, [2]string{"lose 2", "error 3"}, [2]string{"deliver 0", "ok"}, [2]string{"deliver 2", "error 3"}, [2]string{"deliver -1", "error 3"},
		// The ask of bench 3 is the first message now, and the answer to bench 2 the second one.
		[2]string{"stays 2 1", "error 3"}, [2]string{"deliver 1", "ok"}, [2]string{"relead 2 1900 1", "ok 1"}, [2]string{"dossier 2 1900", "trouble 83"}, [2]string{"deliver 0", "ok"}, [2]string{"deliver 0", "ok"}, [2]string{"deliver 0", "error 3"},
		[2]string{"arrive 0", "error 3"}, [2]string{"settle", "ok"}, [2]string{"crash 3 0 -1", "ok"}, [2]string{"dossier 3 1900", "trouble 83"}, [2]string{"conflicts 3", "conflicts"}, [2]string{"where 3 1", "error 3"},
	)
}

// TestQuestions checks the table Questions.
func TestQuestions(t *testing.T) {
	talk(t, 2,
		[2]string{"check", "error 104"}, [2]string{"content 1", "error 104"}, [2]string{"place 9", "error 104"}, [2]string{"forced", "error 104"}, [2]string{"target", "error 104"}, [2]string{"disturbed", "error 104"}, [2]string{"steps", "error 104"}, [2]string{"steps 1", "error 103"},
		[2]string{"where 3 9", "error 3"}, [2]string{"asof 3 1 1 9", "error 3"}, [2]string{"stays 0 9", "error 3"}, [2]string{"conflicts 3", "error 3"}, [2]string{"dossier 3 1900", "error 3"}, [2]string{"dossier 3 10000", "error 3"}, [2]string{"dossier 1 10000", "error 1"}, [2]string{"dossier 1 -1", "error 1"}, [2]string{"check", "error 104"},
		[2]string{"piece 9 1 2 1300 0 0" + square, "ok"}, [2]string{"find 1 1900 9", "ok 1"}, [2]string{"set 1 1901 1 9 3 1", "ok 2"}, [2]string{"take 1 1902 1", "ok 3"}, [2]string{"send 1 1903 2 9", "ok 4"}, [2]string{"withdraw 1 1904 1 4", "ok 5"}, [2]string{"withdraw 1 1905 1 2", "ok 6"}, [2]string{"conflicts 1", "conflicts 1 3"}, [2]string{"stays 1 9", "stays 1900 1 1 1"}, [2]string{"fix 1 2", "ok"}, [2]string{"set 1 1901 1 9 3 1", "ok 7"},
		[2]string{"stays 1 9", "stays 1900 1 1 1 1901 1 2 3 1902 1 3 1"}, [2]string{"stays 1 10", "error 3"}, [2]string{"conflicts 1", "conflicts"}, [2]string{"asof 1 1901 4 9", "pane 1 3 1"}, [2]string{"asof 1 1903 4 9", "tray 1 4"}, [2]string{"asof 1 1903 5 9", "bench 1"}, [2]string{"asof 1 1899 4 9", "error 3"}, [2]string{"asof 1 -5 1000000000 9", "error 3"}, [2]string{"asof 1 1900 0 9", "error 3"},
		[2]string{"kept 1 1900 1 1900 9 2", "ok 8"}, [2]string{"dossier 1 1900", "plan 28"}, [2]string{"check", "findings"}, [2]string{"content 2", "content 9 0 0 1 9 0 1 2 9 1 0 1 9 1 1 2 9 2 0 1 9 2 1 2 9 3 0 1 9 3 1 2"}, [2]string{"content 3", "error 3"}, [2]string{"place 9", "place 0 2"}, [2]string{"place 1", "error 3"}, [2]string{"forced", "error 3"},
		[2]string{"target", "target 1 0 0 0 1 2 9 0 0 0"}, [2]string{"disturbed", "panes 1 2 leads 1 2 3 4 5 6 7"}, [2]string{"steps", "steps 1 1 1 2 3 2 3 1"}, [2]string{"set 1 1906 2 9 2 1", "ok 9"}, [2]string{"face 1 1900 9 1900 2", "ok 10"}, [2]string{"face 1 1900 17 1900 1", "ok 11"},
		// The dossier is as it was until there is another one.
		[2]string{"steps", "steps 1 1 1 2 3 2 3 1"}, [2]string{"dossier 1 10000", "error 1"}, [2]string{"steps", "steps 1 1 1 2 3 2 3 1"}, [2]string{"dossier 1 1900", "plan 27"}, [2]string{"target", "target 1 0 0 0 1 2 9 0 0 0"},
		[2]string{"kept 1 1900 25 1900 9 1", "ok 12"}, [2]string{"dossier 1 1900", "clash 1 25"}, [2]string{"check", "findings"}, [2]string{"content 1", "error 3"}, [2]string{"place 9", "place 0"}, [2]string{"target", "error 3"}, [2]string{"disturbed", "error 3"}, [2]string{"steps", "error 3"}, [2]string{"forced", "error 3"},
		[2]string{"withdraw 1 1900 1 12", "ok 13"}, [2]string{"inventory 1 1900 33 1900 1 1 1 1 2", "ok 14"}, [2]string{"dossier 1 1900", "trouble 83"}, [2]string{"check", "findings"}, [2]string{"target", "error 3"}, [2]string{"steps", "error 3"}, [2]string{"disturbed", "error 3"}, [2]string{"forced", "forced 1 0 0 0 2"}, [2]string{"place 9", "place 0 2"},
	)
}

// outlineOf is the end of the command piece for a pane.
func outlineOf(l []api.Point) string {
	var out []int
	for _, p := range l {
		out = append(out, p.X, p.Y)
	}
	return put("", out)
}

// line throws a command for the time after begin, in a world of n benches with a base.
func (d thrower) line(n int, b api.Base) string {
	panes, _ := web.Panes(b.Panel.Web)
	bench, year, pane := 1+d.Intn(n), 1+d.Intn(3), 1+d.Intn(len(panes))
	id := func() int { return bench + 8*d.Intn(3) }
	some := func() []int { return d.some(len(panes)) }
	lo := d.Intn(2)
	switch d.Intn(43) {
	case 0, 1, 2, 3:
		return put("piece", id(), 1+d.Intn(2), 1+d.Intn(2), d.Intn(3), []int{-3, -1, 0, 0, 1, 5}[d.Intn(6)], d.Intn(2)) + outlineOf(panes[pane-1].Outline)
	case 4:
		return put("mark", id(), d.Intn(4), d.Intn(17), 1)
	case 5, 6:
		return put("fix", 1+d.Intn(n), 1+d.Intn(9))
	case 7, 8, 9, 10:
		return put("find", bench, year, id())
	case 11:
		return put("photo", bench, year, id(), year, 1, pane, 0, 255-100*lo)
	case 12:
		return put("rubbing", bench, year, id(), year, pane, d.Intn(3), 0, 16, 0, d.Intn(3))
	case 13:
		l := some()
		return put("inventory", bench, year, id(), year, lo, lo+1, len(l), l, d.some(2))
	case 14:
		return put("kept", bench, year, id(), year, 1+8*d.Intn(2), d.part(len(panes)))
	case 15:
		return put("paint", bench, year, id(), year, 1+d.Intn(len(b.Panel.Web.Leads)), d.Intn(17))
	case 16:
		return put("survivors", bench, year, id(), year, lo, lo+1, some())
	case 17:
		return put("face", bench, year, id(), year, some())
	case 18:
		return put("relead", bench, year, some())
	case 19, 20, 21:
		return put("send", bench, year, 1+d.Intn(n), id())
	case 22:
		return put("got", bench, year, 1+d.Intn(n), 1+d.Intn(9))
	case 23, 24:
		return put("set", 1, year, pane, 1+8*d.Intn(3), d.Intn(4), d.Intn(2))
	case 25:
		return put("glass", 1, year, pane, 1+d.Intn(2))
	case 26:
		return put("take", 1, year, pane)
	case 27:
		return put("break", bench, year, id(), id())
	case 28:
		return put("withdraw", bench, year, 1+d.Intn(n), 1+d.Intn(6))
	case 29:
		return put([]string{"sync", "settle", "deliver", "lose", "double", "arrive"}[d.Intn(6)], d.Intn(3))
	case 30:
		return put("arrive", d.Intn(3))
	case 31:
		return put("ask", bench, 1+d.Intn(n))
	case 32:
		return put("deliver", d.Intn(2))
	case 33:
		return put("crash", bench, d.Intn(2)*d.Intn(40), d.Intn(3)*d.Intn(20)-1)
	case 34:
		return put([]string{"where", "stays"}[d.Intn(2)], bench, id())
	case 35:
		return put("asof", bench, year, d.Intn(20), id())
	case 36:
		return put([]string{"conflicts", "content", "place"}[d.Intn(3)], bench)
	case 37:
		return put("dossier", bench, year)
	case 40:
		return put("place", 1+8*d.Intn(2))
	case 41, 42:
		return put([]string{"lose", "double"}[d.Intn(2)], d.Intn(2))
	}
	return []string{"settle", "check", "forced", "target", "disturbed", "steps"}[d.Intn(6)]
}

// wrong throws a line that is a little wrong.
func (d thrower) wrong(line string) string {
	l := strings.Fields(line)
	k := d.Intn(len(l))
	switch d.Intn(5) {
	case 0:
		l = slices.Delete(l, k, k+1)
	case 1:
		l = append(l, []string{"0", "1", "7", "-1", "01"}[d.Intn(5)])
	case 2:
		l[k] = []string{"0", "2", "9", "-1", "1000000000", "1000000001", "65536", "joint", "pin", "palette"}[d.Intn(10)]
	case 3:
		return strings.Join(l, " ") + " "
	}
	return strings.Join(l, " ")
}

// convoys puts commands behind lines by which pieces are sent, arrive and are unpacked, with messages that come twice.
func (d thrower) convoys(lines []string, n int) []string {
	_, m := wantRun(strings.Join(lines, "\n"))
	if m.world == nil {
		return lines
	}
	for bench := 1; bench <= n; bench++ {
		for _, to := range d.part(n) {
			notes, _ := m.world.Notes(bench)
			id := 800 + 8*len(notes) + bench
			lines = append(lines, put("piece", id, 1, 1, 0, 0, 0)+square, put("find", bench, 3, id), put("send", bench, 3, to, id), put("where", bench, id))
			lines = append(lines, put("arrive", len(m.world.Trays())), put("got", to, 3, bench, 2+d.Intn(9)), put("ask", bench, to), put("double", len(m.world.Mails())), put("deliver", len(m.world.Mails())))
			_, m = wantRun(strings.Join(lines, "\n"))
			notes, _ = m.world.Notes(bench)
			own := 0
			for _, x := range notes {
				if x.Bench == bench {
					own = x.Num
				}
			}
			lines = append(lines, put("got", to, 3, bench, own), put("where", to, id))
		}
	}
	return lines
}

// TestScripts checks thrown scripts against the tables said anew.
func TestScripts(t *testing.T) {
	t.Parallel()
	d := throw(19)
	count := map[string]int{}
	for round := range 90 {
		b, n := d.base(), 1+round%3
		lines := baseLines(b, n)
		for range 5 {
			k := d.Intn(len(lines))
			lines = slices.Insert(lines, k, d.wrong(lines[d.Intn(len(lines))]))
		}
		lines = append(lines, put("begin", n))
		for range 130 {
			line := d.line(n, b)
			if d.Intn(12) == 0 {
				line = d.wrong(line)
			}
			lines = append(lines, line)
		}
		lines = d.convoys(lines, n)
		script := strings.Join(lines, "\n")
		want, _ := wantRun(script)
		got := string(dossier.Run([]byte(script)))
		wantLines, gotLines := strings.Split(want, "\n"), strings.Split(got, "\n")
		for k, line := range lines {
			if k >= len(gotLines) || gotLines[k] != wantLines[k] {
				t.Fatalf("%q gives %q, want %q, in\n%s", line, gotLines[min(k, len(gotLines)-1)], wantLines[k], script)
			}
			if words := strings.Fields(line + " x"); !strings.HasPrefix(wantLines[k], "error") {
				count[words[0]]++
			} else {
				count[wantLines[k]]++
			}
		}
		if got != want {
			t.Fatalf("%q, want %q", got, want)
		}
	}
	for word := range strings.FieldsSeq("joint lead open pin palette film sheet bite prices begin piece mark fix find photo rubbing inventory kept paint survivors face relead send got set glass take break withdraw sync ask deliver lose double arrive crash settle where asof stays conflicts dossier check content place forced target disturbed steps") {
		if count[word] < 5 {
			t.Error("few lines", word, count[word])
		}
	}
	for _, e := range []api.Errno{1, 3, 20, 21, 90, 94, 100, 103, 104} {
		if s := fmt.Sprint("error ", int(e)); count[s] < 5 {
			t.Error("few errors", s, count[s])
		}
	}
}

// TestBite checks that the bite of the base is that of the job: new glass with a dent needs a bite that is deep enough.
func TestBite(t *testing.T) {
	w := webOf([]api.Point{at(0, 0), at(8, 0), at(8, 8), at(4, 7), at(0, 8)}, [2]int{1, 2}, [2]int{2, 3}, [2]int{3, 4}, [2]int{4, 5}, [2]int{5, 1})
	b := api.Base{Panel: api.Panel{Web: w, Open: []int{1}, Pins: []api.Pin{{Joint: 1}}}, Palette: 1, Sheets: []api.Sheet{{ID: 1, Colour: 1, W: 8, H: 8}}}
	for bite, want := range map[int]string{0: "trouble 83", 1: "plan 15"} {
		b.Bite = bite
		out := runLines(append(baseLines(b, 1), "dossier 1 1900"))
		if out[len(out)-1] != want {
			t.Error("bite", bite, out[len(out)-1])
		}
	}
}

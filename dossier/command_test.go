package dossier_test

import (
	"math"
	"math/rand"
	"regexp"
	"slices"
	"strconv"
	"strings"
	"testing"

	"leadlight/api"
	"leadlight/dossier"
)

// lineForm is the form of a line, but for the greatest numbers and how many there may be.
var lineForm = regexp.MustCompile(`^[a-z]+( (0|-?[1-9][0-9]{0,9}))*$`)

// wantParse is the rule of Parse.
func wantParse(line string) (api.Command, api.Errno) {
	if !lineForm.MatchString(line) || strings.HasSuffix(line, "\n") {
		return api.Command{}, api.ErrCommand
	}
	l := strings.Fields(line)
	c := api.Command{Word: l[0]}
	for _, s := range l[1:] {
		v, _ := strconv.ParseFloat(s, 64)
		if math.Abs(v) > 1e9 {
			return api.Command{}, api.ErrCommand
		}
		c.Args = append(c.Args, int(v))
	}
	if len(c.Args) > 64 {
		return api.Command{}, api.ErrCommand
	}
	return c, api.OK
}

// TestParse checks lines, those of the examples among them.
func TestParse(t *testing.T) {
	lines := []string{
		"joint 1 0 0", "joint 01", "joint  1", "Joint 1", "joint 1 ", "", " ", "joint", "joint ", " joint", "a", "z", "azbycx 1", "a`", "a{", "join-t", "7", "-7", "a -1", "a -0", "a 0", "a 00",
		"a +1", "a -", "a --1", "a 1-", "a 1.0", "a 1_0", "a 0x1", "a 1e3", "a\t1", "a 1\n", "a\n", "a 1\r", "ä 1", "a ١", "a 1000000000", "a -1000000000", "a 1000000001", "a -1000000001",
		"a 9223372036854775807", "a 9223372036854775808", "a -9223372036854775808", "a 99999999999999999999999999", "a 18446744073709551617", "A", "aB", "a\x00", "\x00", "a 1\x00", "\xff",
		"a" + strings.Repeat(" 1", 64), "a" + strings.Repeat(" 1", 65), "a" + strings.Repeat(" 1", 64) + " ", "a" + strings.Repeat(" 1", 63) + "  1", "a" + strings.Repeat(" 1", 5000), strings.Repeat("abc", 1000), strings.Repeat(" ", 70),
	}
	d := rand.New(rand.NewSource(16))
	for range 20000 {
		var b []byte
		for range d.Intn(12) {
			b = append(b, "aaz  0019-9"[d.Intn(11)])
		}
		lines = append(lines, string(b))
	}
	for _, line := range lines {
		got, e := dossier.Parse(line)
		want, f := wantParse(line)
		if e != f || got.Word != want.Word || !slices.Equal(got.Args, want.Args) {
			t.Errorf("Parse of %q: %v %v, want %v %v", line, got, e, want, f)
		}
		if e != api.OK {
			continue
		}
		if s, e := dossier.Print(got); s != line || e != api.OK {
			t.Errorf("Print of %q: %q %v", line, s, e)
		}
	}
	if c, e := dossier.Parse("joint 1 0 0"); e != api.OK || c.Word != "joint" || !slices.Equal(c.Args, []int{1, 0, 0}) {
		t.Error("the example", c, e)
	}
}

// TestPrint checks commands that have a line, and those that have none.
func TestPrint(t *testing.T) {
	for _, x := range []struct {
		c api.Command
		s string
		e api.Errno
	}{
		{api.Command{Word: "open"}, "open", api.OK},
		{api.Command{Word: "pin", Args: []int{1, -20}}, "pin 1 -20", api.OK},
		{api.Command{Word: "a", Args: []int{0, 1000000000, -1000000000}}, "a 0 1000000000 -1000000000", api.OK},
		{api.Command{Word: "a", Args: []int{1000000001}}, "", api.ErrCommand},
		{api.Command{Word: "a", Args: []int{1, -1000000001}}, "", api.ErrCommand},
		{api.Command{Word: "a", Args: []int{math.MaxInt}}, "", api.ErrCommand},
		{api.Command{Word: "a", Args: []int{math.MinInt}}, "", api.ErrCommand},
		{api.Command{}, "", api.ErrCommand},
		{api.Command{Args: []int{1}}, "", api.ErrCommand},
		{api.Command{Word: "a 1"}, "", api.ErrCommand},
		{api.Command{Word: "A"}, "", api.ErrCommand},
		{api.Command{Word: "a\n"}, "", api.ErrCommand},
		{api.Command{Word: "ö"}, "", api.ErrCommand},
		{api.Command{Word: "a", Args: make([]int, 64)}, "a" + strings.Repeat(" 0", 64), api.OK},
		{api.Command{Word: "a", Args: make([]int, 65)}, "", api.ErrCommand},
	} {
		if s, e := dossier.Print(x.c); s != x.s || e != x.e {
			t.Errorf("Print of %v: %q %v", x.c, s, e)
		}
	}
}

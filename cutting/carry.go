package cutting

import (
	"errors"
	"slices"

	"leadlight/api"
	"leadlight/plane"
)

// errScore is the error of a score that cannot be carried out, or that is missing.
var errScore = errors.New("a score cannot be carried out")

// stopped is an error with the index of the score at which it was.
type stopped struct {
	error
	at int
}

func (s stopped) Unwrap() error { return s.error }

// bench is what is left of sheets, and the wants as they lie on them, while scores are carried out.
type bench struct {
	left
	blanks []*blank
}

// blank is a want as it lies. The hull scores are those that are still to be made, in order; the rows are open as soon as there are none.
type blank struct {
	scorer
	want int
	box  rectangle
	lies []api.Point
	hull []line
	rows []row
}

// way is how the scores of a kind, which have so many points, are carried out.
type way struct {
	kind, points int
	carry        func(api.Score) bool
}

// newBench returns the bench with wants that are placed rightly.
func newBench(l []api.Want, s []api.Sheet, bite int, placed []api.Placed) *bench {
	b := &bench{}
	for _, sheet := range s {
		b.left = append(b.left, rest{rectangle: whole(sheet)})
	}
	for k, p := range placed {
		b.blanks = append(b.blanks, newBlank(l[k], bite, p))
	}
	return b
}

func newBlank(w api.Want, bite int, p api.Placed) *blank {
	c := newScorer(w.Outline, bite)
	at := &blank{scorer: c, want: w.ID, box: boxAt(p.Sheet, p.At, boxOf(w, p.Turn)), lies: turned(w, p.Turn, p.At), hull: c.hullLines()}
	pockets, _ := plane.Pockets(w.Outline)
	for _, p := range pockets {
		at.rows = append(at.rows, c.rowOf(p))
	}
	return at
}

// carryOut carries out scores. It returns an error at the first one that cannot be carried out, or, if a want is not free in the end, behind the last one.
func (b *bench) carryOut(scores []api.Score) error {
	ways := []way{
		{api.ScoreSplit, 2, b.carrySplit},
		{api.ScoreHull, 2, b.carryHull},
		{api.ScoreBite, 3, b.carryBite},
	}
	for at, s := range scores {
		k := slices.IndexFunc(ways, func(w way) bool { return w.kind == s.Kind })
		if k < 0 || len(s.Points) != ways[k].points || !ways[k].carry(s) {
			return stopped{errScore, at}
		}
	}
	if !b.allFree() {
		return stopped{errScore, len(scores)}
	}
	return nil
}

func (b *bench) carrySplit(s api.Score) bool { return s.Want == 0 && b.split(s) }

func (b *bench) carryHull(s api.Score) bool {
	at := b.started(s)
	if at == nil || len(at.hull) == 0 || !slices.Equal(at.numbers(s), at.hull[0]) {
		return false
	}
	at.hull = at.hull[1:]
	return true
}

func (b *bench) carryBite(s api.Score) bool {
	at := b.started(s)
	return at != nil && len(at.hull) == 0 && at.biteOff(at.numbers(s))
}

// started returns the want of a score, of which the box is from then on begun; nothing, if its box is not left, or not on the sheet of the score.
func (b *bench) started(s api.Score) *blank {
	k := slices.IndexFunc(b.blanks, func(at *blank) bool { return at.want == s.Want && at.box.sheet == s.Sheet })
	if k < 0 || !b.begin(b.blanks[k].box) {
		return nil
	}
	return b.blanks[k]
}

// allFree reports whether all wants are free.
func (b *bench) allFree() bool {
	for _, at := range b.blanks {
		if b.find(at.box) < 0 || len(at.hull) > 0 || len(at.rows) > 0 {
			return false
		}
	}
	return true
}

// numbers returns the numbers of the corners at the points of a score, and -1 for other points.
func (at *blank) numbers(s api.Score) line {
	var out line
	for _, p := range s.Points {
		out = append(out, slices.Index(at.lies, p))
	}
	return out
}

// biteOff divides an open row at a bite, if it can be.
func (at *blank) biteOff(l line) bool {
	k := slices.IndexFunc(at.rows, func(r row) bool { return r[0] == l[0] && r[len(r)-1] == l[2] })
	if k < 0 {
		return false
	}
	r := at.rows[k]
	m := slices.Index(r, l[1])
	// Of a pocket with a corner that bends to the left nothing is ever bitten off, so its row stays whole.
	if m <= 0 || m == len(r)-1 || !at.inward(r) || !at.lawful(r, m) {
		return false
	}
	at.rows = slices.Delete(at.rows, k, k+1)
	for _, part := range []row{r[:m+1], r[m:]} {
		if len(part) > 2 {
			at.rows = append(at.rows, part)
		}
	}
	return true
}

package cutting_test

import (
	"math"
	"slices"
	"testing"

	"leadlight/api"
	"leadlight/cutting"
)

// split, hull and bite are scores on the sheet 1, of the want 1.
func split(l ...int) api.Score {
	return api.Score{Sheet: 1, Kind: api.ScoreSplit, Points: pts(l...)}
}

func hull(l ...int) api.Score {
	return api.Score{Sheet: 1, Kind: api.ScoreHull, Want: 1, Points: pts(l...)}
}

func bite(l ...int) api.Score {
	return api.Score{Sheet: 1, Kind: api.ScoreBite, Want: 1, Points: pts(l...)}
}

// with returns a score with another sheet, kind or want.
func with(s api.Score, sheet, kind, want int) api.Score {
	s.Sheet, s.Kind, s.Want = sheet, kind, want
	return s
}

// trial is scores that are carried out for one want in the low corner of the sheet 1; the sheets 1 and 2 are greater by more than its box.
type trial struct {
	outline []api.Point
	more    api.Size
	bite    int
	scores  []api.Score
	want    api.Errno
	at      int
}

func (x trial) check(t *testing.T, name string) {
	t.Helper()
	l := wantsOf(x.outline)
	_, high := span(x.outline)
	s := []api.Sheet{sheetOf(1, high.X+x.more.W, high.Y+x.more.H), sheetOf(2, high.X+x.more.W, high.Y+x.more.H)}
	c := api.Cutting{Area: s[0].W * s[0].H, Placed: []api.Placed{{Want: 1, Sheet: 1}}, Scores: x.scores}
	if e, k := cutting.Check(l, s, x.bite, c); e != x.want || k != x.at {
		t.Error(name, e, k)
	}
}

// TestCarrySplits has splits of a sheet of 6 by 4 for a want of 4 by 2.
func TestCarrySplits(t *testing.T) {
	right := split(4, 0, 4, 4)
	upper := split(0, 2, 4, 2)
	for name, x := range map[string]struct {
		scores []api.Score
		want   api.Errno
		at     int
	}{
		"two":               {[]api.Score{right, upper}, api.OK, 0},
		"the other way":     {[]api.Score{split(0, 2, 6, 2), split(4, 0, 4, 2)}, api.OK, 0},
		"more than needed":  {[]api.Score{right, split(5, 0, 5, 4), upper, split(5, 3, 6, 3), split(1, 2, 1, 4)}, api.OK, 0},
		"on another sheet":  {[]api.Score{with(split(1, 0, 1, 4), 2, 1, 0), right, upper}, api.OK, 0},
		"none":              {nil, api.ErrScore, 0},
		"one":               {[]api.Score{right}, api.ErrScore, 1},
		"not long enough":   {[]api.Score{upper, right}, api.ErrScore, 0},
		"too long":          {[]api.Score{right, split(0, 2, 6, 2)}, api.ErrScore, 1},
		"through two":       {[]api.Score{split(0, 2, 6, 2), right}, api.ErrScore, 1},
		"the same again":    {[]api.Score{right, upper, upper}, api.ErrScore, 2},
		"along a side":      {[]api.Score{split(0, 0, 0, 4)}, api.ErrScore, 0},
		"along the far one": {[]api.Score{split(6, 0, 6, 4)}, api.ErrScore, 0},
		"along the lower":   {[]api.Score{split(0, 0, 6, 0)}, api.ErrScore, 0},
		"along the upper":   {[]api.Score{right, split(0, 4, 4, 4)}, api.ErrScore, 1},
		"greater end first": {[]api.Score{split(4, 4, 4, 0), upper}, api.ErrScore, 0},
		"from the right":    {[]api.Score{right, split(4, 2, 0, 2)}, api.ErrScore, 1},
		"slanted":           {[]api.Score{split(0, 0, 6, 4)}, api.ErrScore, 0},
		"a point":           {[]api.Score{split(4, 2, 4, 2)}, api.ErrScore, 0},
		"outside":           {[]api.Score{split(7, 0, 7, 4)}, api.ErrScore, 0},
		"below":             {[]api.Score{split(4, -1, 4, 4)}, api.ErrScore, 0},
		"far":               {[]api.Score{split(math.MaxInt, 0, math.MaxInt, 4)}, api.ErrScore, 0},
		"far below":         {[]api.Score{split(4, math.MinInt, 4, math.MaxInt)}, api.ErrScore, 0},
		"no points":         {[]api.Score{split(), upper}, api.ErrScore, 0},
		"one point":         {[]api.Score{split(4, 0)}, api.ErrScore, 0},
		"three points":      {[]api.Score{split(4, 0, 4, 4, 4, 4)}, api.ErrScore, 0},
		"of a want":         {[]api.Score{right, with(upper, 1, 1, 1)}, api.ErrScore, 1},
		"no sheet":          {[]api.Score{with(right, 0, 1, 0)}, api.ErrScore, 0},
		"no such sheet":     {[]api.Score{with(right, 3, 1, 0)}, api.ErrScore, 0},
		"other sheet":       {[]api.Score{right, with(upper, 2, 1, 0)}, api.ErrScore, 1},
		"kind 0":            {[]api.Score{right, with(upper, 1, 0, 0)}, api.ErrScore, 1},
		"kind 4":            {[]api.Score{right, upper, with(upper, 1, 4, 0)}, api.ErrScore, 2},
		"far kind":          {[]api.Score{with(right, 1, math.MinInt, 0)}, api.ErrScore, 0},
		"box is divided":    {[]api.Score{right, upper, split(2, 0, 2, 2)}, api.ErrScore, 3},
		"a hull score":      {[]api.Score{right, upper, hull(4, 0, 4, 2)}, api.ErrScore, 2},
		"a bite":            {[]api.Score{right, upper, bite(4, 0, 4, 2, 0, 2)}, api.ErrScore, 2},
	} {
		trial{boxed(4, 2), api.Size{W: 2, H: 2}, 9, x.scores, x.want, x.at}.check(t, name)
	}
}

// TestCarryHull has hull scores of a want with four slanted edges.
func TestCarryHull(t *testing.T) {
	l := pts(0, 2, 2, 0, 4, 2, 2, 4)
	all := []api.Score{hull(0, 2, 2, 0), hull(2, 0, 4, 2), hull(4, 2, 2, 4), hull(2, 4, 0, 2)}
	changed := func(k int, s api.Score) []api.Score {
		out := slices.Clone(all)
		out[k] = s
		return out
	}
	one := api.Size{W: 1}
	for name, x := range map[string]trial{
		"all":              {l, api.Size{}, 0, all, api.OK, 0},
		"after a split":    {l, one, 0, slices.Concat([]api.Score{split(4, 0, 4, 4)}, all), api.OK, 0},
		"too few":          {l, api.Size{}, 0, all[:3], api.ErrScore, 3},
		"none":             {l, api.Size{}, 0, nil, api.ErrScore, 0},
		"too many":         {l, api.Size{}, 0, append(slices.Clone(all), all[0]), api.ErrScore, 4},
		"one twice":        {l, api.Size{}, 0, changed(1, all[0]), api.ErrScore, 1},
		"not the next":     {l, api.Size{}, 0, changed(1, all[2]), api.ErrScore, 1},
		"not the first":    {l, api.Size{}, 0, all[1:], api.ErrScore, 0},
		"other way":        {l, api.Size{}, 0, changed(2, hull(2, 4, 4, 2)), api.ErrScore, 2},
		"no corners":       {l, api.Size{}, 0, changed(3, hull(2, 4, 1, 3)), api.ErrScore, 3},
		"far":              {l, api.Size{}, 0, changed(0, hull(math.MinInt, 2, 2, 0)), api.ErrScore, 0},
		"three points":     {l, api.Size{}, 0, changed(2, hull(4, 2, 2, 4, 2, 4)), api.ErrScore, 2},
		"one point":        {l, api.Size{}, 0, changed(2, hull(4, 2)), api.ErrScore, 2},
		"as a split":       {l, api.Size{}, 0, changed(2, with(all[2], 1, 1, 0)), api.ErrScore, 2},
		"as a bite":        {l, api.Size{}, 0, changed(2, with(all[2], 1, 3, 1)), api.ErrScore, 2},
		"other sheet":      {l, api.Size{}, 0, changed(1, with(all[1], 2, 2, 1)), api.ErrScore, 1},
		"other want":       {l, api.Size{}, 0, changed(1, with(all[1], 1, 2, 2)), api.ErrScore, 1},
		"no want":          {l, api.Size{}, 0, changed(1, with(all[1], 1, 2, 0)), api.ErrScore, 1},
		"before the split": {l, one, 0, append(slices.Clone(all), split(4, 0, 4, 4)), api.ErrScore, 0},
		"begun":            {l, api.Size{}, 0, slices.Insert(slices.Clone(all), 1, split(2, 0, 2, 4)), api.ErrScore, 1},
		"not begun":        {l, api.Size{}, 0, slices.Insert(slices.Clone(all), 0, split(2, 0, 2, 4)), api.ErrScore, 1},
	} {
		x.check(t, name)
	}
}

// TestCarryBites has bites of a want with a hull score, and with pockets of two corners and of one between their ends.
func TestCarryBites(t *testing.T) {
	l := pts(0, 0, 10, 1, 20, 0, 20, 8, 14, 7, 8, 7, 2, 8, 0, 4)
	edges := []api.Score{hull(2, 8, 0, 4)}
	below := bite(0, 0, 10, 1, 20, 0)
	whole, rest := bite(20, 8, 14, 7, 2, 8), bite(14, 7, 8, 7, 2, 8)
	other, before := bite(20, 8, 8, 7, 2, 8), bite(20, 8, 14, 7, 8, 7)
	after := func(scores ...api.Score) []api.Score { return slices.Concat(edges, scores) }
	for name, x := range map[string]trial{
		"first division":    {l, api.Size{}, 2, after(below, whole, rest), api.OK, 0},
		"another one":       {l, api.Size{}, 2, after(other, before, below), api.OK, 0},
		"mixed":             {l, api.Size{}, 2, after(whole, below, rest), api.OK, 0},
		"just deep enough":  {l, api.Size{}, 1, after(whole, rest, below), api.OK, 0},
		"not so deep":       {l, api.Size{}, 0, after(whole, rest, below), api.ErrScore, 1},
		"before the hull":   {l, api.Size{}, 2, []api.Score{below, edges[0], whole, rest}, api.ErrScore, 0},
		"part first":        {l, api.Size{}, 2, after(rest, whole, below), api.ErrScore, 1},
		"part of another":   {l, api.Size{}, 2, after(whole, before, below), api.ErrScore, 2},
		"twice":             {l, api.Size{}, 2, after(whole, whole, rest, below), api.ErrScore, 2},
		"part twice":        {l, api.Size{}, 2, after(whole, rest, rest, below), api.ErrScore, 3},
		"too few":           {l, api.Size{}, 2, after(whole, rest), api.ErrScore, 3},
		"a part is left":    {l, api.Size{}, 2, after(below, whole), api.ErrScore, 3},
		"other way":         {l, api.Size{}, 2, after(bite(20, 0, 10, 1, 0, 0), whole, rest), api.ErrScore, 1},
		"end as the middle": {l, api.Size{}, 2, after(bite(0, 0, 20, 0, 20, 0)), api.ErrScore, 1},
		"first as middle":   {l, api.Size{}, 2, after(bite(0, 0, 0, 0, 20, 0)), api.ErrScore, 1},
		"corner of another": {l, api.Size{}, 2, after(bite(0, 0, 14, 7, 20, 0)), api.ErrScore, 1},
		"no corner":         {l, api.Size{}, 2, after(bite(0, 0, 10, 2, 20, 0)), api.ErrScore, 1},
		"no corner at all":  {l, api.Size{}, 2, after(bite(1, 1, 10, 1, 3, 3)), api.ErrScore, 1},
		"two points":        {l, api.Size{}, 2, after(bite(0, 0, 20, 0)), api.ErrScore, 1},
		"no points":         {l, api.Size{}, 2, after(bite()), api.ErrScore, 1},
		"four points":       {l, api.Size{}, 2, after(bite(0, 0, 10, 1, 20, 0, 20, 0)), api.ErrScore, 1},
		"other sheet":       {l, api.Size{}, 2, after(with(below, 2, 3, 1)), api.ErrScore, 1},
		"other want":        {l, api.Size{}, 2, after(with(below, 1, 3, 3)), api.ErrScore, 1},
		"begun by a bite":   {notched(), api.Size{}, 1, []api.Score{bite(8, 4, 4, 3, 0, 4), split(4, 0, 4, 4)}, api.ErrScore, 1},
		"split in the end":  {notched(), api.Size{W: 1}, 1, []api.Score{split(8, 0, 8, 4), bite(8, 4, 4, 3, 0, 4), split(4, 0, 4, 4)}, api.ErrScore, 2},
		"box is not left":   {notched(), api.Size{W: 1}, 1, []api.Score{bite(8, 4, 4, 3, 0, 4)}, api.ErrScore, 0},
	} {
		x.check(t, name)
	}
	bump := pts(0, 0, 30, 0, 30, 20, 20, 18, 15, 19, 10, 18, 0, 20)
	trial{bump, api.Size{}, 4096, []api.Score{bite(30, 20, 20, 18, 0, 20)}, api.ErrScore, 0}.check(t, "a corner bends to the left")
	trial{bump, api.Size{}, 4096, nil, api.ErrScore, 0}.check(t, "that pocket stays")
	steep := pts(0, 0, 4, 0, 4, 4, 2, 3, 0, 4)
	trial{steep, api.Size{}, 4096, []api.Score{bite(4, 4, 2, 3, 0, 4)}, api.ErrScore, 0}.check(t, "turns too much")
}

// TestPlaced has wants that lie on two sheets.
func TestPlaced(t *testing.T) {
	l := []api.Want{{ID: 1, Colour: 1, Grain: 1, Outline: boxed(2, 3)}, {ID: 4, Colour: 1, Outline: boxed(2, 2)}}
	s := []api.Sheet{{ID: 1, Colour: 1, W: 4, H: 3, Grain: 1}, {ID: 3, Colour: 2, W: 9, H: 9}, {ID: 5, Colour: 1, W: 3, H: 4, Grain: 2}}
	one, two := api.Placed{Want: 1, Sheet: 1}, api.Placed{Want: 4, Sheet: 1, At: at(2, 0)}
	placed := func(p api.Placed, sheet, turn, x, y int) api.Placed {
		return api.Placed{Want: p.Want, Sheet: sheet, Turn: turn, At: at(x, y)}
	}
	cut := []api.Score{split(2, 0, 2, 3), split(2, 2, 4, 2)}
	for name, x := range map[string]struct {
		placed []api.Placed
		scores []api.Score
		area   int
		want   api.Errno
		at     int
	}{
		"right":              {[]api.Placed{one, two}, cut, 12, api.OK, 0},
		"turned, two sheets": {[]api.Placed{placed(one, 5, 1, 0, 0), placed(two, 1, 1, 2, 0)}, append(slices.Clone(cut), with(split(0, 2, 3, 2), 5, 1, 0)), 24, api.OK, 0},
		"none":               {nil, cut, 12, api.ErrRoom, 0},
		"too few":            {[]api.Placed{one}, cut, 12, api.ErrRoom, 1},
		"too many":           {[]api.Placed{one, two, two}, cut, 12, api.ErrRoom, 2},
		"too many, one bad":  {[]api.Placed{one, one, two}, cut, 12, api.ErrRoom, 1},
		"order":              {[]api.Placed{two, one}, cut, 12, api.ErrRoom, 0},
		"colour":             {[]api.Placed{one, placed(two, 3, 0, 0, 0)}, cut, 12, api.ErrRoom, 1},
		"no such sheet":      {[]api.Placed{one, placed(two, 2, 0, 0, 0)}, cut, 12, api.ErrRoom, 1},
		"turn for the grain": {[]api.Placed{placed(one, 1, 1, 0, 0), two}, cut, 12, api.ErrRoom, 0},
		"other grain":        {[]api.Placed{placed(one, 5, 0, 0, 0), two}, cut, 12, api.ErrRoom, 0},
		"turn 2":             {[]api.Placed{one, placed(two, 1, 2, 2, 0)}, cut, 12, api.ErrRoom, 1},
		"turn -1":            {[]api.Placed{one, placed(two, 1, -1, 2, 0)}, cut, 12, api.ErrRoom, 1},
		"too far right":      {[]api.Placed{one, placed(two, 1, 0, 3, 0)}, cut, 12, api.ErrRoom, 1},
		"too high":           {[]api.Placed{placed(one, 1, 0, 0, 1), two}, cut, 12, api.ErrRoom, 0},
		"left":               {[]api.Placed{placed(one, 1, 0, -1, 0), two}, cut, 12, api.ErrRoom, 0},
		"far":                {[]api.Placed{one, placed(two, 1, 0, math.MaxInt, 0)}, cut, 12, api.ErrRoom, 1},
		"over another":       {[]api.Placed{one, placed(two, 1, 0, 1, 1)}, cut, 12, api.ErrRoom, 1},
		"in another":         {[]api.Placed{one, placed(two, 1, 0, 0, 0)}, cut, 12, api.ErrRoom, 1},
		"before a score":     {[]api.Placed{one}, nil, 0, api.ErrRoom, 1},
		"score before area":  {[]api.Placed{one, two}, cut[:1], 13, api.ErrScore, 1},
		"less area":          {[]api.Placed{one, two}, cut, 11, api.ErrWaste, 0},
		"all sheets":         {[]api.Placed{one, two}, cut, 105, api.ErrWaste, 0},
		"far area":           {[]api.Placed{one, two}, cut, math.MinInt, api.ErrWaste, 0},
		"one of two sheets":  {[]api.Placed{placed(one, 5, 1, 0, 0), placed(two, 1, 0, 2, 0)}, append(slices.Clone(cut), with(split(0, 2, 3, 2), 5, 1, 0)), 12, api.ErrWaste, 0},
	} {
		if e, k := cutting.Check(l, s, 0, api.Cutting{Area: x.area, Placed: x.placed, Scores: x.scores}); e != x.want || k != x.at {
			t.Error(name, e, k)
		}
	}
}

// TestManyScores splits the greatest sheet into strips, and these into pieces.
func TestManyScores(t *testing.T) {
	c := api.Cutting{Area: 4096 * 4096, Placed: []api.Placed{{Want: 1, Sheet: 1, At: at(4095, 0)}}}
	for x := 1; x < 4096; x++ {
		c.Scores = append(c.Scores, split(x, 0, x, 4096))
	}
	for y := 4095; y > 0; y-- {
		c.Scores = append(c.Scores, split(4095, y, 4096, y))
	}
	s := []api.Sheet{sheetOf(1, 4096, 4096)}
	if e, k := cutting.Check(wantsOf(boxed(1, 1)), s, 0, c); e != api.OK || k != 0 {
		t.Error(e, k)
	}
	c.Scores = append(c.Scores, c.Scores[100])
	if e, k := cutting.Check(wantsOf(boxed(1, 1)), s, 0, c); e != api.ErrScore || k != 2*4095 {
		t.Error(e, k)
	}
}

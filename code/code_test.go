package code_test

import (
	"bytes"
	"math"
	"math/rand"
	"reflect"
	"testing"

	"leadlight/api"
	"leadlight/code"
)

// written returns what a function writes.
func written(write func(w *code.Writer)) []byte {
	var w code.Writer
	write(&w)
	return w.Bytes()
}

// groups is the encoding of a number as the chapter says it, from the bits of u on.
func groups(v int) []byte {
	u := 2 * uint64(v)
	if v < 0 {
		u = 2*uint64(-(v+1)) + 1
	}
	var out []byte
	for {
		out = append(out, byte(u&127))
		u >>= 7
		if u == 0 {
			return out
		}
		out[len(out)-1] |= 128
	}
}

// someNumbers are numbers around those at which an encoding gets longer, and thrown ones.
func someNumbers() []int {
	out := []int{0, math.MaxInt, math.MinInt, math.MaxInt - 1, math.MinInt + 1}
	for bit := range 63 {
		for near := -2; near <= 2; near++ {
			out = append(out, 1<<bit+near, -(1<<bit)+near)
		}
	}
	d := rand.New(rand.NewSource(1))
	for range 2000 {
		out = append(out, int(d.Uint64()>>d.Intn(64)))
	}
	return out
}

// TestNumbers checks numbers against the chapter's words.
func TestNumbers(t *testing.T) {
	for _, v := range someNumbers() {
		b := written(func(w *code.Writer) { w.Number(v) })
		if !bytes.Equal(b, groups(v)) {
			t.Error("Number", v, b, groups(v))
		}
		if back, ok := code.Read(b, (*code.Reader).Number); !ok || back != v {
			t.Error("read Number", v, b, back, ok)
		}
	}
}

// TestExamples has the chapter's examples of numbers, and lists.
func TestExamples(t *testing.T) {
	for _, x := range []struct {
		write func(w *code.Writer)
		want  []byte
	}{
		{func(w *code.Writer) { w.Number(-3) }, []byte{5}},
		{func(w *code.Writer) { w.Number(64) }, []byte{128, 1}},
		{func(w *code.Writer) { w.Number(0) }, []byte{0}},
		{func(w *code.Writer) { w.Number(math.MinInt) }, []byte{255, 255, 255, 255, 255, 255, 255, 255, 255, 1}},
		{func(w *code.Writer) { w.Bool(true); w.Bool(false) }, []byte{2, 0}},
		{func(w *code.Writer) { w.Numbers([]int{-1, 63, 64}) }, []byte{6, 1, 126, 128, 1}},
		{func(w *code.Writer) { w.Numbers(nil) }, []byte{0}},
		{func(w *code.Writer) { w.Block([]byte{200, 0}) }, []byte{4, 200, 0}},
		{func(w *code.Writer) { w.Span(api.Span{Lo: 1, Hi: -2}) }, []byte{2, 3}},
		{func(w *code.Writer) { w.Setting(api.Setting{Shift: 3, Back: true}) }, []byte{6, 2}},
	} {
		if b := written(x.write); !bytes.Equal(b, x.want) {
			t.Error("written", b, "want", x.want)
		}
	}
}

func somePiece() api.Piece {
	g := api.Gauge{Edge: api.Span{Lo: 1, Hi: 2}, Across: api.Span{Lo: 3, Hi: 4}, Bend: -1}
	return api.Piece{ID: 5, Colour: 6, Reverse: 7, Made: 8, Swell: -9, Gauges: []api.Gauge{g, g, {Bend: 1}}, Marks: []api.Mark{{Edge: 10, At: 11, Tone: 12}}}
}

func someItem() api.Item {
	s := api.Sight{Pane: 1, Edge: 2, Grey: api.Span{Lo: 3, Hi: 4}, At: api.Span{Lo: 5, Hi: 6}, Count: api.Span{Lo: 7, Hi: 8}}
	return api.Item{ID: 9, Kind: 10, Year: 11, Film: 12, Piece: 13, Lead: 14, Slack: 15, Panes: []int{16, 17}, Colours: []int{18}, Count: api.Span{Lo: 19, Hi: 20}, Sights: []api.Sight{s}}
}

// doubled returns bytes of which each is the double of a number.
func doubled(l ...int) []byte {
	var out []byte
	for _, v := range l {
		out = append(out, byte(2*v))
	}
	return out
}

// TestPiecesAndItems checks the order of their fields.
func TestPiecesAndItems(t *testing.T) {
	piece, item := somePiece(), someItem()
	b := written(func(w *code.Writer) { w.Piece(piece) })
	want := append(doubled(5, 6, 7, 8), 17) // the Swell is -9
	want = append(want, doubled(3, 1, 2, 3, 4)...)
	want = append(want, 1) // the Bend is -1
	want = append(want, doubled(1, 2, 3, 4)...)
	want = append(want, 1)
	want = append(want, doubled(0, 0, 0, 0, 1, 1, 10, 11, 12)...)
	if !bytes.Equal(b, want) {
		t.Error("Piece", b, want)
	}
	if back, ok := code.Read(b, (*code.Reader).Piece); !ok || !reflect.DeepEqual(back, piece) {
		t.Error("read Piece", back, ok)
	}
	b = written(func(w *code.Writer) { w.Item(item) })
	want = doubled(9, 10, 11, 12, 13, 14, 15, 2, 16, 17, 1, 18, 19, 20, 1, 1, 2, 3, 4, 5, 6, 7, 8)
	if !bytes.Equal(b, want) {
		t.Error("Item", b, want)
	}
	if back, ok := code.Read(b, (*code.Reader).Item); !ok || !reflect.DeepEqual(back, item) {
		t.Error("read Item", back, ok)
	}
}

// TestReadBack checks that what was written is read, in its order.
func TestReadBack(t *testing.T) {
	b := written(func(w *code.Writer) {
		w.Bool(true)
		w.Setting(api.Setting{Shift: -4, Back: true})
		w.Span(api.Span{Lo: 9, Hi: 300})
		w.Block([]byte{1, 2, 3})
		w.Numbers([]int{7, -7})
		code.WriteList(w, []bool{false, true}, w.Bool)
	})
	got, ok := code.Read(b, func(r *code.Reader) []any {
		return []any{r.Bool(), r.Setting(), r.Span(), r.Block(), r.Numbers(), code.ReadList(r, r.Bool)}
	})
	want := []any{true, api.Setting{Shift: -4, Back: true}, api.Span{Lo: 9, Hi: 300}, []byte{1, 2, 3}, []int{7, -7}, []bool{false, true}}
	if !ok || !reflect.DeepEqual(got, want) {
		t.Error("read", got, ok)
	}
}

// TestNoEncoding checks bytes that are no encoding: then there is no result.
func TestNoEncoding(t *testing.T) {
	for _, b := range [][]byte{
		nil, {128}, {128, 128}, // no end
		{128, 0}, {129, 0}, {255, 128, 0}, // a group of zeros at the end
		{255, 255, 255, 255, 255, 255, 255, 255, 255, 2}, // a 65th bit
		{255, 255, 255, 255, 255, 255, 255, 255, 255, 3},
		{255, 255, 255, 255, 255, 255, 255, 255, 255, 129, 1},
		{2, 2}, {0, 0}, // something behind it
	} {
		if v, ok := code.Read(b, (*code.Reader).Number); ok || v != 0 {
			t.Error("Number", b, v, ok)
		}
	}
	for _, b := range [][]byte{nil, {1}, {4}, {128, 1}} {
		if v, ok := code.Read(b, (*code.Reader).Bool); ok || v {
			t.Error("Bool", b, v, ok)
		}
	}
	long := groups(math.MaxInt)
	for _, b := range [][]byte{nil, {1}, {2}, {4, 0}, {0, 0}, long, append(long, 0, 0), groups(math.MinInt)} {
		if l, ok := code.Read(b, (*code.Reader).Numbers); ok || l != nil {
			t.Error("Numbers", b, l, ok)
		}
		if l, ok := code.Read(b, (*code.Reader).Block); ok || l != nil {
			t.Error("Block", b, l, ok)
		}
	}
	if l, ok := code.Read([]byte{2, 128}, (*code.Reader).Numbers); ok || l != nil {
		t.Error("a list of a number without an end", l, ok)
	}
	whole := written(func(w *code.Writer) { w.Piece(somePiece()); w.Item(someItem()) })
	for n := range whole {
		p, ok := code.Read(whole[:n], func(r *code.Reader) api.Piece {
			p := r.Piece()
			r.Item()
			return p
		})
		if ok || p.ID != 0 || len(p.Gauges) > 0 {
			t.Error("a part", n, p, ok)
		}
	}
}

// TestOwnMemory checks that neither what is read nor what was written shares memory with anything.
func TestOwnMemory(t *testing.T) {
	from := []byte{4, 1, 2}
	b, _ := code.Read(from, (*code.Reader).Block)
	b[0] = 9
	if !bytes.Equal(from, []byte{4, 1, 2}) {
		t.Error("Block", from)
	}
	var w code.Writer
	w.Number(1)
	before := w.Bytes()
	before[0] = 9
	w.Number(2)
	if !bytes.Equal(w.Bytes(), []byte{2, 4}) {
		t.Error("Bytes", w.Bytes())
	}
}

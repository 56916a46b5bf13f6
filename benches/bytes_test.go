package benches_test

import (
	"bytes"
	"math"
	"math/rand"
	"reflect"
	"slices"
	"testing"

	"leadlight/api"
	"leadlight/benches"
)

// bytesOf says anew how a value is encoded: the fields of the types of package api stand in the order of the chapter.
func bytesOf(v reflect.Value) []byte {
	var out []byte
	switch v.Kind() {
	case reflect.Int:
		u := uint64(v.Int()) * 2
		if v.Int() < 0 {
			u = uint64(-(v.Int()+1))*2 + 1
		}
		for ; u > 127; u >>= 7 {
			out = append(out, byte(u|128))
		}
		return append(out, byte(u))
	case reflect.Bool:
		if v.Bool() {
			return []byte{2}
		}
		return []byte{0}
	case reflect.Slice:
		out = bytesOf(reflect.ValueOf(v.Len()))
		for i := range v.Len() {
			out = append(out, bytesOf(v.Index(i))...)
		}
	case reflect.Struct:
		for i := range v.NumField() {
			out = append(out, bytesOf(v.Field(i))...)
		}
	}
	return out
}

func wantBytes(n api.Note) []byte { return bytesOf(reflect.ValueOf(n)) }

// notesOfAllKinds are well-formed notes, many of them thrown.
func notesOfAllKinds() []api.Note {
	return slices.Concat(proper(), corrections(), greatest(), thrown()[39], thrown()[79], thrown()[119])
}

// greatest are notes with the longest encodings.
func greatest() []api.Note {
	wide := api.Span{Lo: 33554432, Hi: 33554432}
	p := api.Piece{Colour: 16, Reverse: 16, Made: 9999, Swell: -64}
	for range 24 {
		p.Gauges = append(p.Gauges, api.Gauge{Edge: wide, Across: wide, Bend: 1})
	}
	for k := range 32 {
		p.Marks = append(p.Marks, api.Mark{Edge: k / 2, At: 16, Tone: 15 + k%2})
	}
	far := api.Span{Lo: math.MinInt, Hi: math.MinInt}
	x := api.Item{ID: 65535, Kind: 7, Year: math.MinInt, Film: math.MinInt, Piece: math.MinInt, Lead: math.MinInt, Slack: math.MinInt, Count: far}
	x.Panes, x.Colours = slices.Repeat([]int{math.MinInt}, 64), slices.Repeat([]int{math.MinInt}, 16)
	x.Sights = slices.Repeat([]api.Sight{{Pane: math.MinInt, Edge: math.MinInt, Grey: far, At: far, Count: far}}, 16)
	parts := api.Note{Kind: api.NoteBreak, Piece: 65535}
	for k := range 4 {
		p.ID = 65511 + 8*k
		parts.Data = append(parts.Data, p)
	}
	var pieces []int
	for k := range 64 {
		pieces = append(pieces, 65400+k)
	}
	out := []api.Note{parts, {Kind: api.NoteRecord, Item: x}, send(8, pieces...)}
	for k, n := range out {
		out[k] = as(correct(8, 400, n), 7, 400, 1<<20, 9999)
	}
	return out
}

// TestEncode checks the encodings of notes, and that they are read back.
func TestEncode(t *testing.T) {
	for _, n := range notesOfAllKinds() {
		b, e := benches.Encode(n)
		if e != api.OK || !bytes.Equal(b, wantBytes(n)) || len(b) > api.MaxBody {
			t.Error("Encode", n, b, e)
		}
		if back, e := benches.Decode(b); e != api.OK || !sameValue(back, n) {
			t.Error("Decode", n, back, e)
		}
	}
	for _, n := range []api.Note{{}, as(take(0), 1, 1, 1, 1), as(take(1), 0, 1, 1, 1), as(find(10), 1, 1, 1, 1)} {
		if b, e := benches.Encode(n); e != api.ErrNote || b != nil {
			t.Error("Encode", n, b, e)
		}
	}
	if b, e := benches.Encode(as(withdraw(1, 64), 2, 3, 4, 5)); e != api.OK || !bytes.Equal(b, []byte{4, 6, 8, 10, 20, 0, 0, 0, 0, 0, 0, 0, 2, 128, 1, 0, 0, 0, 0, 0, 0, 0, 0, 0, 0, 0, 0, 0, 0, 0}) {
		t.Error("Encode of a withdrawal", b, e)
	}
}

// checkDecode checks that bytes are the encoding of what Decode returns, or that it returns nothing.
func checkDecode(t *testing.T, b []byte) bool {
	t.Helper()
	n, e := benches.Decode(b)
	switch e {
	case api.OK:
		if benches.CheckNote(n) != api.OK || !bytes.Equal(wantBytes(n), b) {
			t.Error("Decode", b, n)
		}
	case api.ErrCode:
		if !sameValue(n, api.Note{}) {
			t.Error("Decode with a note and an error", b, n)
		}
	default:
		t.Error("Decode", b, e)
	}
	return e == api.OK
}

// TestNoEncodings checks bytes that are the encoding of no note.
func TestNoEncodings(t *testing.T) {
	for _, n := range notesOfAllKinds() {
		b, _ := benches.Encode(n)
		for k := range b {
			if checkDecode(t, b[:k]) {
				t.Error("Decode of a part", b[:k])
			}
		}
		for _, more := range []byte{0, 1, 128} {
			if checkDecode(t, append(slices.Clone(b), more)) {
				t.Error("Decode of more", b, more)
			}
		}
	}
	bad := []api.Note{{}, as(take(0), 1, 1, 1, 1), as(take(1), 9, 1, 1, 1), as(find(10), 1, 1, 1, 1), as(relead(2, 1), 1, 1, 1, 1)}
	for _, n := range bad {
		if checkDecode(t, wantBytes(n)) {
			t.Error("Decode of a note that is not well-formed", n)
		}
	}
	b := wantBytes(as(take(1), 1, 1, 1, 1))
	long := slices.Concat([]byte{130, 0}, b[1:]) // the Bench with a group of zeros at its end
	huge := slices.Concat(b[:14], []byte{255, 255, 255, 255, 255, 255, 255, 255, 255, 1}, b[15:])
	for _, b := range [][]byte{nil, {}, long, huge, make([]byte, 30), make([]byte, 1<<20)} {
		if checkDecode(t, b) {
			t.Error("Decode", len(b))
		}
	}
}

// TestChangedBytes checks Decode of encodings of which some bytes are changed.
func TestChangedBytes(t *testing.T) {
	d := rand.New(rand.NewSource(10))
	right := 0
	for _, n := range notesOfAllKinds() {
		b := wantBytes(n)
		for range 200 {
			c := slices.Clone(b)
			for range 1 + d.Intn(2) {
				k := d.Intn(min(len(c), 40))
				c[k] = []byte{byte(d.Intn(256)), c[k] ^ 1<<d.Intn(8), c[k] + 2}[d.Intn(3)]
			}
			if checkDecode(t, c) {
				right++
			}
		}
	}
	if right < 1000 {
		t.Error("few encodings", right)
	}
}

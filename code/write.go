// Package code writes numbers, lists and what is made of them as bytes, and reads them back. See shared/doc/09-benches.md, section Notes as bytes.
package code

import (
	"slices"

	"leadlight/api"
)

// Writer writes one thing behind the other. The zero Writer has written nothing.
type Writer struct{ bytes []byte }

// Bytes returns what was written.
func (w *Writer) Bytes() []byte { return slices.Clone(w.bytes) }

// Number writes a number: seven bits in each byte, the least first.
func (w *Writer) Number(v int) {
	u := uint64(v) << 1
	if v < 0 {
		u = ^u // which is -2v - 1
	}
	for u >= 128 {
		w.bytes = append(w.bytes, byte(u%128)+128)
		u /= 128
	}
	w.bytes = append(w.bytes, byte(u))
}

// Bool writes a boolean.
func (w *Writer) Bool(v bool) {
	if v {
		w.Number(1)
	} else {
		w.Number(0)
	}
}

// WriteList writes a list whose elements are written by write.
func WriteList[T any](w *Writer, l []T, write func(T)) {
	w.Number(len(l))
	for _, x := range l {
		write(x)
	}
}

// Numbers writes a list of numbers.
func (w *Writer) Numbers(l []int) { WriteList(w, l, w.Number) }

// Block writes a list of bytes.
func (w *Writer) Block(b []byte) {
	w.Number(len(b))
	w.bytes = append(w.bytes, b...)
}

// Span writes a span.
func (w *Writer) Span(s api.Span) {
	w.Number(s.Lo)
	w.Number(s.Hi)
}

// Setting writes a setting.
func (w *Writer) Setting(s api.Setting) {
	w.Number(s.Shift)
	w.Bool(s.Back)
}

// Piece writes a piece.
func (w *Writer) Piece(p api.Piece) {
	for _, v := range []int{p.ID, p.Colour, p.Reverse, p.Made, p.Swell} {
		w.Number(v)
	}
	WriteList(w, p.Gauges, w.gauge)
	WriteList(w, p.Marks, w.mark)
}

func (w *Writer) gauge(g api.Gauge) {
	w.Span(g.Edge)
	w.Span(g.Across)
	w.Number(g.Bend)
}

func (w *Writer) mark(m api.Mark) {
	w.Number(m.Edge)
	w.Number(m.At)
	w.Number(m.Tone)
}

// Item writes an item.
func (w *Writer) Item(x api.Item) {
	for _, v := range []int{x.ID, x.Kind, x.Year, x.Film, x.Piece, x.Lead, x.Slack} {
		w.Number(v)
	}
	w.Numbers(x.Panes)
	w.Numbers(x.Colours)
	w.Span(x.Count)
	WriteList(w, x.Sights, w.sight)
}

func (w *Writer) sight(s api.Sight) {
	w.Number(s.Pane)
	w.Number(s.Edge)
	w.Span(s.Grey)
	w.Span(s.At)
	w.Span(s.Count)
}

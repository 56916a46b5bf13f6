package code

import (
	"slices"

	"leadlight/api"
)

// Reader reads one thing behind the other. Where it cannot, it leaves what Read called.
type Reader struct{ rest []byte }

// Read returns what read reads, and whether the bytes are just that.
func Read[T any](b []byte, read func(*Reader) T) (out T, ok bool) {
	// Leaving by a panic spares each call below a check of whether the one before has failed.
	defer func() {
		if recover() != nil {
			var none T
			out, ok = none, false
		}
	}()
	r := &Reader{b}
	out = read(r)
	if len(r.rest) > 0 {
		r.fail()
	}
	return out, true
}

// fail leaves Read, which reports it.
func (r *Reader) fail() { panic("these bytes are no encoding") }

// next reads a byte.
func (r *Reader) next() byte {
	if len(r.rest) == 0 {
		r.fail()
	}
	b := r.rest[0]
	r.rest = r.rest[1:]
	return b
}

// Number reads a number.
func (r *Reader) Number() int {
	var u uint64
	for shift := 0; ; shift += 7 {
		b := r.next()
		// There is no group of zeros at the end but the only one, and no bit beyond the 64th one.
		if shift > 0 && b == 0 || shift == 63 && b > 1 {
			r.fail()
		}
		u |= uint64(b%128) << shift
		if b < 128 {
			break
		}
	}
	if u%2 == 1 {
		return int(^(u / 2))
	}
	return int(u / 2)
}

// Bool reads a boolean.
func (r *Reader) Bool() bool {
	v := r.Number()
	if v != 0 && v != 1 {
		r.fail()
	}
	return v == 1
}

// length reads the length of a list.
func (r *Reader) length() int {
	n := r.Number()
	// Each element has one byte at least.
	if n < 0 || n > len(r.rest) {
		r.fail()
	}
	return n
}

// ReadList reads a list whose elements are read by read.
func ReadList[T any](r *Reader, read func() T) []T {
	var out []T
	for range r.length() {
		x := read()
		out = append(out, x)
	}
	return out
}

// Numbers reads a list of numbers.
func (r *Reader) Numbers() []int { return ReadList(r, r.Number) }

// Block reads a list of bytes.
func (r *Reader) Block() []byte {
	n := r.length()
	b := slices.Clone(r.rest[:n])
	r.rest = r.rest[n:]
	return b
}

// Span reads a span.
func (r *Reader) Span() api.Span {
	lo := r.Number()
	hi := r.Number()
	return api.Span{Lo: lo, Hi: hi}
}

// Setting reads a setting.
func (r *Reader) Setting() api.Setting {
	shift := r.Number()
	back := r.Bool()
	return api.Setting{Shift: shift, Back: back}
}

// into reads numbers into variables.
func (r *Reader) into(l ...*int) {
	for _, v := range l {
		*v = r.Number()
	}
}

// Piece reads a piece.
func (r *Reader) Piece() api.Piece {
	var p api.Piece
	r.into(&p.ID, &p.Colour, &p.Reverse, &p.Made, &p.Swell)
	p.Gauges = ReadList(r, r.gauge)
	p.Marks = ReadList(r, r.mark)
	return p
}

func (r *Reader) gauge() api.Gauge {
	var g api.Gauge
	g.Edge = r.Span()
	g.Across = r.Span()
	g.Bend = r.Number()
	return g
}

func (r *Reader) mark() api.Mark {
	var m api.Mark
	r.into(&m.Edge, &m.At, &m.Tone)
	return m
}

// Item reads an item.
func (r *Reader) Item() api.Item {
	var x api.Item
	r.into(&x.ID, &x.Kind, &x.Year, &x.Film, &x.Piece, &x.Lead, &x.Slack)
	x.Panes = r.Numbers()
	x.Colours = r.Numbers()
	x.Count = r.Span()
	x.Sights = ReadList(r, r.sight)
	return x
}

func (r *Reader) sight() api.Sight {
	var s api.Sight
	r.into(&s.Pane, &s.Edge)
	s.Grey = r.Span()
	s.At = r.Span()
	s.Count = r.Span()
	return s
}

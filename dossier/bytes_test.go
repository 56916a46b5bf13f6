package dossier_test

import (
	"bytes"
	"math"
	"reflect"
	"testing"

	"leadlight/api"
	"leadlight/dossier"
)

// bytesOf says anew how values are encoded, one behind the other: the fields of the types of package api stand in the order of the chapter.
func bytesOf(l ...any) []byte {
	var out []byte
	for _, x := range l {
		out = append(out, encoded(reflect.ValueOf(x))...)
	}
	return out
}

func encoded(v reflect.Value) []byte {
	var out []byte
	switch v.Kind() {
	case reflect.Int:
		u := uint64(v.Int()) * 2
		if v.Int() < 0 {
			u = uint64(-(v.Int()+1))*2 + 1
		}
		for ; u > 127; u >>= 7 {
			out = append(out, byte(u|128))
		}
		return append(out, byte(u))
	case reflect.Uint8:
		return []byte{byte(v.Uint())}
	case reflect.Bool:
		if v.Bool() {
			return []byte{2}
		}
		return []byte{0}
	case reflect.Slice:
		out = bytesOf(v.Len())
		for i := range v.Len() {
			out = append(out, encoded(v.Index(i))...)
		}
	case reflect.Struct:
		for i := range v.NumField() {
			out = append(out, encoded(v.Field(i))...)
		}
	}
	return out
}

// wantParts are the parts of a dossier.
func wantParts(d api.Dossier) [][]byte {
	j, c := d.Job, d.Job.Case
	return [][]byte{
		bytesOf(c.Web.Joints, c.Web.Leads, c.Palette, j.Year, j.Open, j.Pins, j.Sheets, j.Bite, j.Turn, j.Move, j.New),
		bytesOf(c.Pieces, c.Films),
		bytesOf(c.Items, c.Releads, j.Found),
		bytesOf(d.Survey),
		bytesOf(d.Clash, d.Alone, d.Hits),
		bytesOf(d.Choices),
		bytesOf(d.Trouble, d.Plan),
		bytesOf(d.Bound, d.Proof),
	}
}

// sealed returns parts as they are encoded.
func sealed(parts [][]byte) []byte { return bytesOf(parts, dossier.Root(parts)) }

// anything returns a dossier in which each number is another one, and each list has elements.
func anything() api.Dossier {
	var d api.Dossier
	next := -40
	fill(reflect.ValueOf(&d).Elem(), &next, 3)
	return d
}

// fill fills a value; trees have so many levels.
func fill(v reflect.Value, next *int, levels int) {
	switch v.Kind() {
	case reflect.Int:
		v.SetInt(int64(*next * *next * *next))
		*next++
	case reflect.Bool:
		v.SetBool(*next%2 == 0)
		*next++
	case reflect.Slice:
		tree := v.Type() == reflect.TypeFor[[]api.Node]() || v.Type() == reflect.TypeFor[[]api.Proof]()
		if tree && levels == 0 {
			return
		}
		for range 2 {
			x := reflect.New(v.Type().Elem()).Elem()
			fill(x, next, levels-1)
			v.Set(reflect.Append(v, x))
		}
	case reflect.Struct:
		for i := range v.NumField() {
			fill(v.Field(i), next, levels)
		}
	}
}

// someDossiers are dossiers that are right, and others.
func someDossiers() []api.Dossier {
	out := []api.Dossier{{}, anything(), {Bound: math.MaxInt, Clash: extremes(), Trouble: -7}}
	d := throw(17)
	for _, x := range built() {
		out = append(out, x, d.damaged(x))
	}
	return out
}

// TestBytes is P10.4: the parts of any dossier are as the chapter says, and Decode returns what was encoded.
func TestBytes(t *testing.T) {
	for _, x := range someDossiers() {
		kept := plain(x)
		parts, e := dossier.Parts(x)
		if e != api.OK || !sameValue(parts, wantParts(x)) {
			t.Fatal("Parts", x, parts, e)
		}
		b, e := dossier.Encode(x)
		if e != api.OK || !bytes.Equal(b, sealed(wantParts(x))) {
			t.Fatal("Encode", x, b, e)
		}
		back, e := dossier.Decode(b)
		if e != api.OK || !sameValue(back, kept) {
			t.Fatal("Decode", x, back, e)
		}
		spoil(b)
		spoil(parts)
		if !sameValue(x, kept) || !sameValue(back, kept) {
			t.Fatal("bytes share memory", x)
		}
		for i, part := range wantParts(x) {
			path, _ := dossier.Path(wantParts(x), i)
			if !dossier.Verify(dossier.Root(wantParts(x)), 8, i, part, path) {
				t.Error("a part of a dossier", i)
			}
		}
	}
}

// TestNoBytes checks bytes that are no encoding of a dossier.
func TestNoBytes(t *testing.T) {
	refuse := func(what string, b []byte) {
		if d, e := dossier.Decode(b); e != api.ErrBytes || !sameValue(d, api.Dossier{}) {
			t.Error("Decode of", what, b, e)
		}
	}
	refuse("nothing", nil)
	refuse("no parts", sealed(nil))
	x := anything()
	good := sealed(wantParts(x))
	if _, e := dossier.Decode(good); e != api.OK {
		t.Fatal("Decode", e)
	}
	for n := range good {
		refuse("a part of it", good[:n])
		other := bytes.Clone(good)
		other[n] ^= 1
		refuse("another byte", other)
	}
	refuse("more bytes", append(bytes.Clone(good), 0))
	parts := wantParts(x)
	refuse("another root", bytesOf(parts, dossier.Root(parts)+1))
	refuse("a greater root", bytesOf(parts, dossier.Root(parts)+2147483647))
	refuse("no root", bytesOf(parts))
	refuse("seven parts", sealed(parts[:7]))
	refuse("nine parts", sealed(append(wantParts(x), nil)))
	for i := range parts {
		for _, change := range []func(b []byte) []byte{
			func(b []byte) []byte { return append(b, 0) },
			func(b []byte) []byte { return b[:len(b)-1] },
			func(b []byte) []byte { return nil },
			func(b []byte) []byte { b[len(b)-1] |= 128; return append(b, 0) }, // a group of zeros
			func(b []byte) []byte { return append([]byte{255, 255, 255, 255, 255, 255, 255, 255, 255, 1}, b...) },
		} {
			forged := wantParts(x)
			forged[i] = change(forged[i])
			refuse("a part that is none", sealed(forged))
		}
	}
	// the boolean of what was found is the last byte of the third part
	forged := wantParts(api.Dossier{Job: api.Job{Found: []api.Held{{Pane: 1}}}})
	forged[2][len(forged[2])-1] = 4
	refuse("a boolean of 2", sealed(forged))
}

// chain is a survey with so many levels, and broad one with so many nodes.
func chain(levels int) api.Node {
	n := api.Node{Kind: 1}
	for range levels - 1 {
		n = api.Node{Kids: []api.Node{n}}
	}
	return n
}

func broad(nodes int) api.Node {
	n := api.Node{Kind: 5, Kids: make([]api.Node, 1000)}
	for k := range nodes - 1001 {
		kid := &n.Kids[k%1000]
		kid.Kids = append(kid.Kids, api.Node{Kind: k})
	}
	return n
}

// asProof returns a proof of the form of a survey.
func asProof(n api.Node) api.Proof {
	var p api.Proof
	for _, kid := range n.Kids {
		p.Kids = append(p.Kids, asProof(kid))
	}
	return p
}

// TestTreeLimits checks trees with as many levels and nodes as there can be, and with one more.
func TestTreeLimits(t *testing.T) {
	for _, x := range []struct {
		n api.Node
		e api.Errno
	}{
		{chain(128), api.OK}, {chain(129), api.ErrLimit}, {chain(1000), api.ErrLimit},
		{broad(api.MaxNodes), api.OK}, {broad(api.MaxNodes + 1), api.ErrLimit},
	} {
		for k, d := range []api.Dossier{{Survey: x.n}, {Alone: x.n}, {Proof: asProof(x.n)}} {
			parts, e := dossier.Parts(d)
			b, f := dossier.Encode(d)
			if e != x.e || f != x.e || (e == api.OK) != (len(parts) == 8) || (e == api.OK) != (len(b) > 0) {
				t.Error("limits", k, e, f, x.e)
			}
			back, e := dossier.Decode(sealed(wantParts(d)))
			if (e == api.OK) != (x.e == api.OK) || e != api.OK && e != api.ErrBytes || e == api.OK && !reflect.DeepEqual(back, d) {
				t.Error("Decode", k, e, x.e)
			}
		}
	}
	// Each tree is counted alone.
	n := broad(api.MaxNodes)
	if _, e := dossier.Encode(api.Dossier{Survey: n, Alone: n, Proof: asProof(n)}); e != api.OK {
		t.Error("three great trees", e)
	}
	// Of very many levels neither are written nor read more than there can be.
	n = chain(65536)
	if _, e := dossier.Encode(api.Dossier{Survey: n}); e != api.ErrLimit {
		t.Error("Encode of very many levels", e)
	}
	parts := wantParts(api.Dossier{})
	parts[3] = bytes.Repeat([]byte{2, 2, 2}, 3000000)
	if _, e := dossier.Decode(sealed(parts)); e != api.ErrBytes {
		t.Error("Decode of very many levels", e)
	}
}

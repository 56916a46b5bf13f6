package dossier

import (
	"errors"

	"leadlight/api"
	"leadlight/code"
)

// maxDepth is how many levels a tree may have that is written.
const maxDepth = 128

// errTree is what a tree panics with that has too many nodes or levels.
var errTree = errors.New("a tree is too large")

// Parts returns the parts of the encoding of a dossier.
func Parts(d api.Dossier) (parts [][]byte, err api.Errno) {
	defer func() {
		if recover() != nil {
			parts, err = nil, api.ErrLimit
		}
	}()
	for _, form := range forms() {
		var w code.Writer
		form(coder{out: &w}, &d)
		parts = append(parts, w.Bytes())
	}
	return parts, api.OK
}

// Encode returns the encoding of a dossier.
func Encode(d api.Dossier) ([]byte, api.Errno) {
	parts, e := Parts(d)
	if e != api.OK {
		return nil, e
	}
	var w code.Writer
	code.WriteList(&w, parts, w.Block)
	w.Number(Root(parts))
	return w.Bytes(), api.OK
}

// Decode returns the dossier of an encoding.
func Decode(b []byte) (api.Dossier, api.Errno) {
	s, ok := code.Read(b, readSealed)
	if !ok || s.root != Root(s.parts) {
		return api.Dossier{}, api.ErrBytes
	}
	d, ok := read(s.parts)
	if !ok {
		return api.Dossier{}, api.ErrBytes
	}
	return d, api.OK
}

// sealed is parts with the root of their hash tree.
type sealed struct {
	parts [][]byte
	root  int
}

func readSealed(r *code.Reader) sealed {
	parts := code.ReadList(r, r.Block)
	root := r.Number()
	return sealed{parts, root}
}

// read returns the dossier that parts make, if they do.
func read(parts [][]byte) (d api.Dossier, ok bool) {
	forms := forms()
	if len(parts) != len(forms) {
		return api.Dossier{}, false
	}
	for k, form := range forms {
		fill := func(r *code.Reader) bool {
			form(coder{in: r}, &d)
			return true
		}
		if _, ok := code.Read(parts[k], fill); !ok {
			return api.Dossier{}, false
		}
	}
	return d, true
}

// coder writes what variables hold, or, if it has a reader, sets them to what it reads: so the form of a dossier is said only once.
type coder struct {
	in  *code.Reader
	out *code.Writer
}

// pass writes a variable, or reads it.
func pass[T any](c coder, v *T, read func(*code.Reader) T, write func(*code.Writer, T)) {
	if c.in != nil {
		*v = read(c.in)
	} else {
		write(c.out, *v)
	}
}

// number passes numbers, one behind the other.
func (c coder) number(l ...*int) {
	for _, v := range l {
		pass(c, v, (*code.Reader).Number, (*code.Writer).Number)
	}
}

func (c coder) numbers(v *[]int)       { pass(c, v, (*code.Reader).Numbers, (*code.Writer).Numbers) }
func (c coder) setting(v *api.Setting) { pass(c, v, (*code.Reader).Setting, (*code.Writer).Setting) }
func (c coder) piece(v *api.Piece)     { pass(c, v, (*code.Reader).Piece, (*code.Writer).Piece) }
func (c coder) item(v *api.Item)       { pass(c, v, (*code.Reader).Item, (*code.Writer).Item) }

// list passes a list, each element by each.
func list[T any](c coder, l *[]T, each func(*T)) {
	read := func(r *code.Reader) []T {
		return code.ReadList(r, func() T {
			var x T
			each(&x)
			return x
		})
	}
	write := func(w *code.Writer, l []T) {
		code.WriteList(w, l, func(x T) { each(&x) })
	}
	pass(c, l, read, write)
}

// tree passes a tree: what stands at a node by node, and then its kids. It panics if the tree is too large.
func tree[T any](c coder, root *T, node func(*T), kids func(*T) *[]T) {
	nodes := 0
	var visit func(n *T, level int)
	visit = func(n *T, level int) {
		nodes++
		if nodes > api.MaxNodes || level > maxDepth {
			panic(errTree)
		}
		node(n)
		list(c, kids(n), func(kid *T) { visit(kid, level+1) })
	}
	visit(root, 1)
}

package benches

import (
	"leadlight/api"
	"leadlight/code"
)

// Encode returns the encoding of a note.
func Encode(n api.Note) ([]byte, api.Errno) {
	if e := CheckNote(n); e != api.OK {
		return nil, e
	}
	return encoding(n), api.OK
}

// Decode returns the note of an encoding.
func Decode(b []byte) (api.Note, api.Errno) {
	if len(b) > api.MaxBody {
		return api.Note{}, api.ErrCode
	}
	n, ok := code.Read(b, readNote)
	if !ok || CheckNote(n) != api.OK {
		return api.Note{}, api.ErrCode
	}
	return n, api.OK
}

// numbers returns the numbers with which the encoding of a note begins.
func numbers(n *api.Note) []*int {
	return []*int{&n.Bench, &n.Num, &n.Clock, &n.Year, &n.Kind, &n.Fix, &n.Piece, &n.Pane, &n.Colour, &n.To}
}

// encoding is Encode of a well-formed note.
func encoding(n api.Note) []byte {
	var w code.Writer
	for _, v := range numbers(&n) {
		w.Number(*v)
	}
	w.Setting(n.Setting)
	w.Number(n.Ref.Bench)
	w.Number(n.Ref.Num)
	w.Numbers(n.Pieces)
	w.Numbers(n.Panes)
	code.WriteList(&w, n.Data, w.Piece)
	w.Item(n.Item)
	return w.Bytes()
}

func readNote(r *code.Reader) api.Note {
	var n api.Note
	for _, v := range numbers(&n) {
		*v = r.Number()
	}
	n.Setting = r.Setting()
	n.Ref.Bench = r.Number()
	n.Ref.Num = r.Number()
	n.Pieces = r.Numbers()
	n.Panes = r.Numbers()
	n.Data = code.ReadList(r, r.Piece)
	n.Item = r.Item()
	return n
}

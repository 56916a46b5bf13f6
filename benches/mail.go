package benches

import (
	"slices"

	"leadlight/api"
	"leadlight/code"
)

// The first bytes of messages.
const (
	mailAsk    = 1
	mailAnswer = 2
)

// ask adds the message by which a bench asks another one for notes.
func (w *World) ask(e api.Event) api.Errno {
	from := w.bench(e.Bench)
	if from == nil || w.bench(e.To) == nil || e.To == e.Bench {
		return api.ErrArg
	}
	if len(w.mails) == api.MaxMail {
		return api.ErrLimit
	}
	w.mails = append(w.mails, api.Mail{From: e.Bench, To: e.To, Body: writeAsk(from.Counts())})
	return api.OK
}

// mail reports whether there is a message with an index.
func (w *World) mail(index int) bool { return within(index, 0, len(w.mails)-1) }

func (w *World) deliver(e api.Event) api.Errno {
	if !w.mail(e.Index) {
		return api.ErrNone
	}
	m := w.mails[e.Index]
	to := w.bench(m.To)
	if m.Body[0] == mailAnswer {
		if _, err := to.Hear(readAnswer(m.Body)); err != api.OK {
			return err
		}
		return w.lose(e)
	}
	// Nobody may learn of a note that its bench could forget, and then give its number to another one.
	to.Sync()
	w.lose(e)
	missing := to.Missing(readAsk(m.Body))
	if gift := missing[:min(len(missing), api.MaxGift)]; len(gift) > 0 {
		w.mails = append(w.mails, api.Mail{From: m.To, To: m.From, Body: writeAnswer(gift)})
	}
	return api.OK
}

// lose takes a message from the list.
func (w *World) lose(e api.Event) api.Errno {
	if !w.mail(e.Index) {
		return api.ErrNone
	}
	w.mails = slices.Delete(w.mails, e.Index, e.Index+1)
	return api.OK
}

// double adds a copy of a message.
func (w *World) double(e api.Event) api.Errno {
	if !w.mail(e.Index) {
		return api.ErrNone
	}
	if len(w.mails) == api.MaxMail {
		return api.ErrLimit
	}
	w.mails = append(w.mails, w.mails[e.Index])
	return api.OK
}

// writeAsk returns the message of a bench that knows so many notes.
func writeAsk(counts []int) []byte {
	var w code.Writer
	w.Numbers(counts)
	return append([]byte{mailAsk}, w.Bytes()...)
}

// writeAnswer returns the message that brings notes.
func writeAnswer(l []api.Note) []byte {
	var w code.Writer
	code.WriteList(&w, l, func(n api.Note) { w.Block(encoding(n)) })
	return append([]byte{mailAnswer}, w.Bytes()...)
}

// readAsk returns the counts of an ask.
func readAsk(body []byte) []int {
	counts, _ := code.Read(body[1:], (*code.Reader).Numbers)
	return counts
}

// readAnswer returns the notes of an answer.
func readAnswer(body []byte) []api.Note {
	blocks, _ := code.Read(body[1:], func(r *code.Reader) [][]byte { return code.ReadList(r, r.Block) })
	var out []api.Note
	for _, b := range blocks {
		n, _ := Decode(b)
		out = append(out, n)
	}
	return out
}

package dossier

import (
	"maps"
	"strings"

	"leadlight/api"
	"leadlight/benches"
)

// Run returns what the console prints for a script.
func Run(script []byte) []byte {
	if len(script) > api.MaxScript {
		return []byte(failure(api.ErrLimit) + "\n")
	}
	c := newConsole()
	var out []byte
	for _, line := range linesOf(script) {
		out = append(out, c.answer(line)...)
		out = append(out, '\n')
	}
	return out
}

// linesOf returns the lines of a script that are read.
func linesOf(script []byte) []string {
	l := strings.Split(string(script), "\n")
	if l[len(l)-1] == "" {
		l = l[:len(l)-1]
	}
	return l[:min(len(l), api.MaxLines)]
}

// state is what the commands of a script have led to.
type state struct {
	base    api.Base
	world   *benches.World // nil before begin
	drafts  map[int]api.Piece
	fix     *api.Ref     // the note that the next one corrects, if it does
	dossier *api.Dossier // nil before the first one
}

// action is what the console does for a command with its numbers: it returns what the command gives, or nothing, if this is just ok.
type action func(c *console, a []int) (string, api.Errno)

// console runs commands.
type console struct {
	state
	actions map[string]action
}

func newConsole() *console {
	c := &console{state{base: api.Base{Palette: 1}, drafts: map[int]api.Piece{}}, map[string]action{}}
	for _, table := range []map[string]action{baseActions(), draftActions(), noteActions(), worldActions(), questionActions(), dossierActions()} {
		maps.Copy(c.actions, table)
	}
	return c
}

// answer returns the line that a line gives.
func (c *console) answer(line string) string {
	if line == "" {
		return ""
	}
	text, e := c.run(line)
	switch {
	case e != api.OK:
		return failure(e)
	case text == "":
		return "ok"
	}
	return text
}

func failure(e api.Errno) string { return phrase("error", int(e)) }

// run runs a line that is not empty.
func (c *console) run(line string) (string, api.Errno) {
	command, e := Parse(line)
	if e != api.OK {
		return "", e
	}
	do, known := c.actions[command.Word]
	if !known {
		return "", api.ErrCommand
	}
	return do(c, command.Args)
}

// counts reports whether a table allows so many numbers for a command.
type counts func(a []int) bool

// exactly allows n numbers.
func exactly(n int) counts {
	return func(a []int) bool { return len(a) == n }
}

// atLeast allows n numbers and more, as long as the further ones come in groups.
func atLeast(n, group int) counts {
	return func(a []int) bool { return len(a) >= n && (len(a)-n)%group == 0 }
}

// early makes an action one of before begin, and late one of after it. Both ask first whether the table allows the numbers.
func early(allows counts, do action) action { return timed(allows, false, do) }
func late(allows counts, do action) action  { return timed(allows, true, do) }

func timed(allows counts, begun bool, do action) action {
	return func(c *console, a []int) (string, api.Errno) {
		switch {
		case !allows(a):
			return "", api.ErrCommand
		case (c.world != nil) != begun:
			return "", api.ErrReady
		}
		return do(c, a)
	}
}

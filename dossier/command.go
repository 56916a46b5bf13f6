package dossier

import (
	"strconv"
	"strings"

	"leadlight/api"
)

// maxNumber is the greatest number of a command, and -maxNumber the least one.
const maxNumber = 1000000000

// Parse returns the command of a line.
func Parse(line string) (api.Command, api.Errno) {
	// One field more than a command can have is enough to see that there are too many.
	fields := strings.SplitN(line, " ", api.MaxArgs+2)
	if !isWord(fields[0]) || len(fields) > api.MaxArgs+1 {
		return api.Command{}, api.ErrCommand
	}
	c := api.Command{Word: fields[0]}
	for _, f := range fields[1:] {
		v, ok := parseNumber(f)
		if !ok {
			return api.Command{}, api.ErrCommand
		}
		c.Args = append(c.Args, v)
	}
	return c, api.OK
}

// isWord reports whether a text is a word of a command.
func isWord(s string) bool {
	for i := range len(s) {
		if s[i] < 'a' || s[i] > 'z' {
			return false
		}
	}
	return s != ""
}

// isNumber reports whether a command can have a number.
func isNumber(v int) bool { return within(v, -maxNumber, maxNumber) }

// parseNumber returns the number of a text. Each number has only one text.
func parseNumber(s string) (int, bool) {
	v, err := strconv.Atoi(s)
	return v, err == nil && isNumber(v) && strconv.Itoa(v) == s
}

// Print returns the line of a command.
func Print(c api.Command) (string, api.Errno) {
	if !isWord(c.Word) || len(c.Args) > api.MaxArgs {
		return "", api.ErrCommand
	}
	for _, v := range c.Args {
		if !isNumber(v) {
			return "", api.ErrCommand
		}
	}
	return phrase(c.Word, c.Args...), api.OK
}

// phrase returns a word and numbers, each with one blank ahead of it.
func phrase(word string, l ...int) string {
	out := []byte(word)
	for _, v := range l {
		out = append(out, ' ')
		out = strconv.AppendInt(out, int64(v), 10)
	}
	return string(out)
}

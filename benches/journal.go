package benches

import (
	"bytes"
	"slices"

	"leadlight/api"
)

// Frame returns a record of a journal.
func Frame(b []byte) ([]byte, api.Errno) {
	if len(b) > api.MaxBody {
		return nil, api.ErrLimit
	}
	return frame(b), api.OK
}

// frame is Frame of at most MaxBody bytes.
func frame(b []byte) []byte {
	length := twoBytes(len(b))
	return slices.Concat(length, twoBytes(check(length)), b, twoBytes(check(b)))
}

// check returns the check of bytes.
func check(b []byte) int {
	sum := 1
	for i, x := range b {
		sum += (i + 1) * int(x)
	}
	return sum % 65521
}

// twoBytes returns a number in two bytes.
func twoBytes(n int) []byte { return []byte{byte(n % 256), byte(n / 256)} }

// checked reports whether bytes begin with n bytes and the check of these.
func checked(b []byte, n int) bool {
	return len(b) >= n+2 && bytes.Equal(b[n:n+2], twoBytes(check(b[:n])))
}

// Scan returns the records with which bytes begin, and how many bytes they take.
func Scan(b []byte) ([][]byte, int) {
	var out [][]byte
	rest := b
records:
	for checked(rest, 2) {
		length := int(rest[0]) + 256*int(rest[1])
		switch body := rest[4:]; {
		case length <= api.MaxBody && checked(body, length):
			out = append(out, slices.Clone(body[:length]))
			rest = body[length+2:]
		default:
			break records
		}
	}
	return out, len(b) - len(rest)
}

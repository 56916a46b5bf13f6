package glass

import (
	"cmp"
	"slices"

	"leadlight/api"
)

// ValidFilm reports whether a film is valid.
func ValidFilm(f api.Film) bool {
	wrong := func(grey int) bool { return !within(grey, 0, api.MaxGrey) }
	return within(f.ID, 1, api.MaxID) && within(len(f.Grey), 1, api.MaxColour) && !slices.ContainsFunc(f.Grey, wrong)
}

// Grey returns the grey of a colour on a film.
func Grey(f api.Film, colour int) (int, api.Errno) {
	if !ValidFilm(f) {
		return 0, api.ErrFilm
	}
	if !validColour(colour) {
		return 0, api.ErrArg
	}
	grey := tableOf(f)[colour-1]
	if grey == noGrey {
		return 0, api.ErrNone
	}
	return grey, api.OK
}

// Colours returns the colours whose grey lies in a span.
func Colours(f api.Film, grey api.Span) ([]int, api.Errno) {
	if !ValidFilm(f) {
		return nil, api.ErrFilm
	}
	var out []int
	for k, g := range tableOf(f) {
		if g != noGrey && contains(grey, g) {
			out = append(out, k+1)
		}
	}
	return out, api.OK
}

// Greys returns the least span that contains the greys of colours.
func Greys(f api.Film, colours []int) (api.Span, api.Errno) {
	if !ValidFilm(f) {
		return api.Span{}, api.ErrFilm
	}
	wrong := func(colour int) bool { return !validColour(colour) }
	if slices.ContainsFunc(colours, wrong) || !rising(colours, cmp.Compare[int]) {
		return api.Span{}, api.ErrArg
	}
	if len(colours) == 0 {
		return api.Span{Lo: 1}, api.OK
	}
	greys := tableOf(f)
	out := one(greys[colours[0]-1])
	for _, colour := range colours {
		grey := greys[colour-1]
		if grey == noGrey {
			return api.Span{}, api.ErrNone
		}
		out = api.Span{Lo: min(out.Lo, grey), Hi: max(out.Hi, grey)}
	}
	return out, api.OK
}

func validColour(colour int) bool { return within(colour, 1, api.MaxColour) }

// noGrey stands for the grey of a colour that a film lacks.
const noGrey = -1

// table is the greys of the colours 1, 2, .. on a film.
type table [api.MaxColour]int

// tableOf returns the table of a valid film.
func tableOf(f api.Film) table {
	var out table
	for k := range out {
		out[k] = noGrey
	}
	copy(out[:], f.Grey)
	return out
}

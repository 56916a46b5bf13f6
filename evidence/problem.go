package evidence

import "leadlight/api"

// Rules returns the rules of an item for a year.
func Rules(c api.Case, item, year int) ([]api.Rule, api.Errno) {
	k, x, e := readItemYear(c, item, year)
	if e != api.OK {
		return nil, e
	}
	options, e := k.allOptions(year)
	if e != api.OK {
		return nil, e
	}
	return k.rules(x, year, options), api.OK
}

// Compile returns the problem of a year.
func Compile(c api.Case, year int) (api.Problem, api.Errno) {
	k, e := readYear(c, year)
	if e != api.OK {
		return api.Problem{}, e
	}
	options, e := k.allOptions(year)
	if e != api.OK {
		return api.Problem{}, e
	}
	if _, e := space(options); e != api.OK {
		return api.Problem{}, e
	}
	out := api.Problem{Options: options}
	for _, pane := range k.panes {
		out.Panes = append(out.Panes, pane.ID)
	}
	for _, x := range k.Items {
		out.Rules = append(out.Rules, k.rules(x, year, options)...)
	}
	if len(out.Rules) > api.MaxRules {
		return api.Problem{}, api.ErrLimit
	}
	return out, api.OK
}

// Space returns the product of the numbers of options of a year.
func Space(c api.Case, year int) (int, api.Errno) {
	k, e := readYear(c, year)
	if e != api.OK {
		return 0, e
	}
	options, e := k.allOptions(year)
	if e != api.OK {
		return 0, e
	}
	return space(options)
}

// Obeys reports whether a filling agrees with an item.
func Obeys(c api.Case, item, year int, l []api.Option) (bool, api.Errno) {
	k, x, e := readItemYear(c, item, year)
	if e != api.OK {
		return false, e
	}
	if _, e := k.filling(year, l); e != api.OK {
		return false, e
	}
	for _, said := range k.claims(x) {
		if !said.holds(l) {
			return false, api.OK
		}
	}
	return true, api.OK
}

// Filling returns the indices of the options of a filling.
func Filling(c api.Case, year int, l []api.Option) ([]int, api.Errno) {
	k, e := readYear(c, year)
	if e != api.OK {
		return nil, e
	}
	return k.filling(year, l)
}

// Chosen returns the options of a filling of indices.
func Chosen(c api.Case, year int, f []int) ([]api.Option, api.Errno) {
	k, e := readYear(c, year)
	if e != api.OK {
		return nil, e
	}
	if len(f) != len(k.panes) {
		return nil, api.ErrArg
	}
	options, e := k.allOptions(year)
	if e != api.OK {
		return nil, e
	}
	var out []api.Option
	for i, n := range f {
		if !within(n, 0, len(options[i])-1) {
			return nil, api.ErrNone
		}
		out = append(out, options[i][n])
	}
	return out, api.OK
}

// allOptions returns the options of all panes in a year, or ErrLimit if there are too many of one.
func (k known) allOptions(year int) ([][]api.Option, api.Errno) {
	var out [][]api.Option
	for _, pane := range k.panes {
		l, e := k.optionsOf(pane, year)
		if e != api.OK {
			return nil, e
		}
		out = append(out, l)
	}
	return out, api.OK
}

// space returns the number of fillings of options, or ErrLimit if it is too great.
func space(options [][]api.Option) (int, api.Errno) {
	product := 1
	for _, l := range options {
		// No list is empty, so a product that is too great stays so.
		product *= len(l)
		if product > api.MaxSpace {
			return 0, api.ErrLimit
		}
	}
	return product, api.OK
}

// rules returns the rules of an item in a year, of the options that all panes have then.
func (k known) rules(x api.Item, year int, options [][]api.Option) []api.Rule {
	if k.silencer(x, year) >= 0 {
		return nil
	}
	var out []api.Rule
	for _, said := range k.claims(x) {
		out = append(out, said.rule(options))
	}
	return out
}

// filling is Filling for a valid case and year.
func (k known) filling(year int, l []api.Option) ([]int, api.Errno) {
	if len(l) != len(k.panes) {
		return nil, api.ErrArg
	}
	options, e := k.allOptions(year)
	if e != api.OK {
		return nil, e
	}
	var out []int
	for i, o := range l {
		at, e := index(options[i], o)
		if e != api.OK {
			return nil, e
		}
		out = append(out, at)
	}
	return out, api.OK
}

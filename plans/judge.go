package plans

import (
	"leadlight/api"
	"leadlight/cutting"
	"leadlight/leading"
	"leadlight/places"
)

// Closes returns the positions of the joints with a filling.
func Closes(j api.Job, l []api.Option) ([]api.Position, api.Errno) {
	t, f, e := readFilling(j, l)
	if e != api.OK {
		return nil, e
	}
	return t.close(f)
}

// Glazes returns how the new glass of a filling is cut.
func Glazes(j api.Job, l []api.Option) (api.Cutting, api.Errno) {
	t, f, e := readFilling(j, l)
	if e != api.OK {
		return api.Cutting{}, e
	}
	return t.glaze(f)
}

// Judge returns why a filling cannot be the target of a plan, or OK.
func Judge(j api.Job, l []api.Option) (api.Errno, api.Errno) {
	t, f, e := readFilling(j, l)
	if e != api.OK {
		return api.OK, e
	}
	return t.judge(f), api.OK
}

// close returns the positions of the joints with a filling, or ErrClose.
func (t *task) close(f picks) ([]api.Position, api.Errno) {
	at, e := leading.Close(t.panel, t.needs(f))
	if e != api.OK {
		return nil, api.ErrClose
	}
	return at, api.OK
}

// glaze returns how the new glass of the chosen options is cut, or ErrGlass.
func (t *task) glaze(p picks) (api.Cutting, api.Errno) {
	wants := t.wants(p)
	if len(wants) == 0 {
		return api.Cutting{}, api.OK
	}
	// For too many wants this is an error, too.
	c, e := cutting.Cut(wants, t.Sheets, t.Bite)
	if e != api.OK {
		return api.Cutting{}, api.ErrGlass
	}
	return c, api.OK
}

// judge is Judge for a filling of a valid job.
func (t *task) judge(f picks) api.Errno {
	if agrees, _ := places.Agrees(t.problem, t.indices(f)); !agrees {
		return api.ErrAgree
	}
	if _, e := t.close(f); e != api.OK {
		return e
	}
	_, e := t.glaze(f)
	return e
}

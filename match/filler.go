package match

import "tandem/api"

// filler puts together what comes of a template.
type filler struct {
	cursors []cursor // one for each bind
	left    int      // how many parts may still come
}

func (f *filler) fill(p *piece) (api.Datum, api.Errno) {
	switch p.role {
	case variable:
		return f.variable(&f.cursors[p.bind])
	case row:
		return f.row(p)
	case stray:
		return api.Datum{}, api.ErrMatch
	}
	return f.whole(p.template)
}

func (f *filler) variable(c *cursor) (api.Datum, api.Errno) {
	if c.Depth > 0 {
		return api.Datum{}, api.ErrMatch
	}
	return f.whole(c.D)
}

// whole is a datum as it is, in new memory.
func (f *filler) whole(d api.Datum) (api.Datum, api.Errno) {
	if !f.countAll(d) {
		return api.Datum{}, api.ErrSteps
	}
	return copied(d), api.OK
}

// countAll counts a datum with all in it; false, if that is more than may come.
func (f *filler) countAll(d api.Datum) bool {
	if len(d.Items) == 0 && len(d.Rest) == 0 {
		return f.count(1)
	}
	return f.countLists(d)
}

// countLists counts a datum that has lists. Data may be deeper than calls go, so rows that are still to be counted are kept in a list.
func (f *filler) countLists(d api.Datum) bool {
	rows := [][]api.Datum{{d}}
	for len(rows) > 0 {
		last := rows[len(rows)-1]
		rows = rows[:len(rows)-1]
		if !f.count(len(last)) {
			return false
		}
		for _, part := range last {
			for _, more := range partsOf(part) {
				rows = append(rows, more)
			}
		}
	}
	return true
}

func (f *filler) count(parts int) bool {
	f.left -= parts
	return f.left >= 0
}

func (f *filler) row(p *piece) (api.Datum, api.Errno) {
	// A list without items is what its Rest comes to, and no part itself: one with a Rest is counted with its first item.
	if p.rest == nil && !f.count(1) {
		return api.Datum{}, api.ErrSteps
	}
	out := api.Datum{Kind: p.template.Kind}
	for i := range p.parts {
		if e := f.repeat(p, &p.parts[i], &out); e != api.OK {
			return api.Datum{}, e
		}
	}
	if p.rest == nil {
		return out, api.OK
	}
	rest, e := f.fill(p.rest)
	if e != api.OK {
		return api.Datum{}, e
	}
	return joined(out, rest), api.OK
}

// add fills a part of a row, and puts it behind what has come of that so far.
func (f *filler) add(whole, part *piece, out *api.Datum) api.Errno {
	if whole.rest != nil && len(out.Items) == 0 && !f.count(1) {
		return api.ErrSteps
	}
	d, e := f.fill(part)
	if e != api.OK {
		return e
	}
	out.Items = append(out.Items, d)
	return api.OK
}

func joined(l, rest api.Datum) api.Datum {
	switch {
	case len(l.Items) == 0:
		return rest
	case rest.Kind == api.List:
		l.Items = append(l.Items, rest.Items...)
		l.Rest = restOf(rest)
	default:
		l.Rest = []api.Datum{rest}
	}
	return l
}

package read

import "tandem/api"

// datum reads the datum that begins with a piece: it is whole, or broken.
func (r *reader) datum(p piece) piece {
	switch p.kind {
	case ended:
		return r.cut()
	case closing:
		return fault(p.from, api.ErrClose)
	case dot:
		return fault(p.from, api.ErrDot)
	case opening, short:
		return r.within(p)
	case quotes:
		return r.quoted(p)
	case character:
		return r.letter(p)
	case token:
		return r.atom(p)
	}
	return p
}

// within reads what has data in it.
func (r *reader) within(open piece) piece {
	if r.deep == api.MaxDepth {
		return fault(open.from, api.ErrDeep)
	}
	r.deep++
	d := r.nested(open)
	r.deep--
	return d
}

func (r *reader) nested(open piece) piece {
	switch r.bytes(open) {
	case "(":
		return r.row(open, api.List)
	case "#(":
		return r.row(open, api.Vector)
	}
	return r.abbreviation(open)
}

// abbreviation reads the datum behind a ' or the like.
func (r *reader) abbreviation(open piece) piece {
	d := r.datum(r.next())
	if d.kind == broken {
		return d
	}
	name := api.Datum{Kind: api.Symbol, Text: longName(r.bytes(open))}
	return made(open.from, d.to, api.Datum{Kind: api.List, Items: []api.Datum{name, d.datum}})
}

// longName is the word that an abbreviation stands for.
func longName(bytes string) string {
	switch bytes {
	case "'":
		return "quote"
	case "`":
		return "quasiquote"
	case ",":
		return "unquote"
	}
	return "unquote-splicing"
}

// row reads the data of a list or a vector, up to its end.
func (r *reader) row(open piece, kind int) piece {
	row := api.Datum{Kind: kind}
	for {
		p := r.next()
		switch {
		case p.kind == closing:
			return made(open.from, p.to, row)
		case p.kind == dot && kind == api.List && len(row.Items) > 0:
			return r.dotted(open, row)
		}
		d := r.datum(p)
		if d.kind == broken {
			return d
		}
		row.Items = append(row.Items, d.datum)
	}
}

// dotted reads what stands behind a list's dot: one datum, and the list's end.
func (r *reader) dotted(open piece, list api.Datum) piece {
	p := r.next()
	if p.kind == closing {
		return fault(p.from, api.ErrDot)
	}
	d := r.datum(p)
	if d.kind == broken {
		return d
	}
	end := r.next()
	switch end.kind {
	case closing:
		return made(open.from, end.to, joined(list, d.datum))
	case ended, broken:
		return r.datum(end)
	}
	// Whatever begins here is one too many, be it a sound datum or not.
	return fault(end.from, api.ErrDot)
}

// joined is a list with what stands behind its dot: what is in a list there is the list's own.
func joined(list, rest api.Datum) api.Datum {
	if rest.Kind == api.List {
		list.Items = append(list.Items, rest.Items...)
		list.Rest = rest.Rest
	} else {
		list.Rest = []api.Datum{rest}
	}
	return list
}

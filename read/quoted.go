package read

import "tandem/api"

// quoted reads a text up to its second quotes.
func (r *reader) quoted(open piece) piece {
	var bytes []byte
	for r.at < len(r.text) {
		switch b := r.text[r.at]; b {
		case '"':
			r.at++
			return made(open.from, r.at, api.Datum{Kind: api.String, Text: string(bytes)})
		case '\\':
			p := r.escape()
			if p.kind == broken {
				return p
			}
			bytes = append(bytes, byte(p.datum.N))
		default:
			bytes = append(bytes, b)
			r.at++
		}
	}
	return r.cut()
}

// escape reads a \ and what belongs to it: the byte that it stands for, as a character.
func (r *reader) escape() piece {
	rest := r.text[r.at:]
	if len(rest) == 1 {
		return r.cut()
	}
	switch rest[1] {
	case '"', '\\':
		return r.stands(2, int(rest[1]))
	case 'n':
		return r.stands(2, '\n')
	case 't':
		return r.stands(2, '\t')
	case 'x':
		return r.hexEscape(rest)
	}
	return fault(r.at, api.ErrText)
}

// hexEscape reads \x, digits and ; where the text ends ahead of the ; there might be digits still.
func (r *reader) hexEscape(rest string) piece {
	n, digits := hexBegin(rest[2:])
	end := 2 + digits
	switch {
	case end == len(rest):
		return r.cut()
	case digits > 0 && rest[end] == ';':
		return r.stands(end+1, n)
	}
	return fault(r.at, api.ErrText)
}

// stands takes so many bytes, which stand for one.
func (r *reader) stands(length, n int) piece {
	p := r.take(whole, length)
	p.datum = api.Datum{Kind: api.Char, N: n}
	return p
}

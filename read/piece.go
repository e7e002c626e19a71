package read

import (
	"strings"

	"tandem/api"
)

// What a piece of a text is.
const (
	ended     = iota // nothing: the text is at its end
	blank            // blank bytes, or a comment
	passing          // #; the datum behind it is passed over
	opening          // ( or #(
	closing          // )
	short            // ' ` , or ,@
	quotes           // " at the beginning of a text
	character        // #\ and what belongs to it
	dot              // the token .
	token            // any other token
	whole            // a datum
	broken           // from here on something is wrong
)

// span is where a piece of a text is: its first byte, and the byte behind its last.
type span struct{ from, to int }

// piece is what was read. It embeds where it is, as an error is told by its place, and a datum by its end.
type piece struct {
	span
	kind  int
	datum api.Datum // of a whole one
	wrong api.Errno // of a broken one
}

// made is a datum that stands from one byte to another.
func made(from, to int, d api.Datum) piece {
	return piece{span: span{from, to}, kind: whole, datum: d}
}

// fault is an error at a byte.
func fault(at int, e api.Errno) piece {
	return piece{span: span{at, at}, kind: broken, wrong: e}
}

// reader goes through a text.
type reader struct {
	text string
	at   int // the byte that it is at
	deep int // how many lists, vectors and abbreviations it is within
}

// cut is the fault of a text that ends too early.
func (r *reader) cut() piece { return fault(len(r.text), api.ErrEnd) }

// bytes are those of a piece.
func (r *reader) bytes(p piece) string { return r.text[p.from:p.to] }

// take is the piece of the next so many bytes, which are passed.
func (r *reader) take(kind, count int) piece {
	from := r.at
	r.at += count
	return piece{span: span{from, r.at}, kind: kind}
}

// piece takes what begins at the byte that the reader is at: of a text, a list, a vector its beginning alone.
func (r *reader) piece() piece {
	rest := r.text[r.at:]
	if rest == "" {
		return r.take(ended, 0)
	}
	switch rest[0] {
	case ' ', '\t', '\n', '\r':
		return r.take(blank, 1)
	case ';':
		return r.take(blank, lineLength(rest))
	case '(':
		return r.take(opening, 1)
	case ')':
		return r.take(closing, 1)
	case '"':
		return r.take(quotes, 1)
	case '\'', '`':
		return r.take(short, 1)
	case ',':
		if strings.HasPrefix(rest, ",@") {
			return r.take(short, 2)
		}
		return r.take(short, 1)
	case '#':
		return r.sharp(rest)
	}
	return r.token(rest)
}

// sharp takes what begins with a #.
func (r *reader) sharp(rest string) piece {
	switch {
	case strings.HasPrefix(rest, "#|"):
		length, closed := commentLength(rest)
		if !closed {
			return r.cut()
		}
		return r.take(blank, length)
	case strings.HasPrefix(rest, "#;"):
		return r.take(passing, 2)
	case strings.HasPrefix(rest, "#("):
		return r.take(opening, 2)
	case strings.HasPrefix(rest, `#\`):
		// The first byte of a character may be a delimiter.
		first := min(3, len(rest))
		return r.take(character, first+tokenLength(rest[first:]))
	}
	return r.token(rest)
}

func (r *reader) token(rest string) piece {
	length := tokenLength(rest)
	if rest[:length] == "." {
		return r.take(dot, length)
	}
	return r.take(token, length)
}

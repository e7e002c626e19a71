package read

import "strings"

// next goes on over blanks, and takes the first piece that is none. A datum that is passed over and is wrong is broken.
func (r *reader) next() piece {
	// Of several #; in a row each passes over a datum, the last one the first; counting them needs no depth.
	passed := 0
again:
	p := r.piece()
	switch {
	case p.kind == blank:
		goto again
	case p.kind == passing:
		passed++
		goto again
	case passed > 0:
		d := r.datum(p)
		if d.kind == broken {
			return d
		}
		passed--
		goto again
	}
	return p
}

// lineLength is how many bytes there are up to the end of a line.
func lineLength(rest string) int {
	if i := strings.IndexByte(rest, '\n'); i >= 0 {
		return i
	}
	return len(rest)
}

// commentLength is how long the comment is that begins with #|, and whether it is closed.
func commentLength(rest string) (int, bool) {
	open := 0
	for i := 0; i+1 < len(rest); i++ {
		switch rest[i : i+2] {
		case "#|":
			open++
			i++
		case "|#":
			open--
			i++
		}
		if open == 0 {
			return i + 1, true
		}
	}
	return 0, false
}

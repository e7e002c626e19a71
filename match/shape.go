package match

import "tandem/api"

// role is what a part of a pattern or of a template stands for.
type role int

const (
	itself role = iota
	anything
	variable
	row   // a list or a vector, part by part
	stray // an ellipsis that may not stand there
)

// none stands for no part of a row.
const none = -1

// shape is a part of a pattern, as forms are held against it.
type shape struct {
	role       role
	pattern    api.Datum
	first, end int     // which variables stand in it
	parts      []shape // of a row, without its ellipsis
	many       int     // the part that the ellipsis follows
	rest       *shape
}

// shaper makes shapes, and counts the variables that it meets.
type shaper struct {
	literals map[name]int
	known    map[name]int
	vars     []api.Bind
	ellipses int // around what it is at
}

// shapeOf is a pattern's shape, and its variables; false, if it is no pattern.
func shapeOf(pattern api.Datum, literals []api.Datum) (shape, []api.Bind, bool) {
	s := shaper{literals: map[name]int{}, known: map[name]int{}}
	for i, l := range literals {
		if l.Kind != api.Symbol {
			return shape{}, nil, false
		}
		s.literals[nameOf(l)] = i
	}
	if isDeeper(pattern, api.MaxDepth) {
		return shape{}, nil, false
	}
	whole, ok := s.shape(pattern)
	if !ok {
		return shape{}, nil, false
	}
	return whole, s.vars, true
}

func (s *shaper) shape(d api.Datum) (shape, bool) {
	switch d.Kind {
	case api.Symbol:
		return s.symbol(d)
	case api.List, api.Vector:
		return s.row(d)
	}
	return shape{role: itself, pattern: d}, true
}

func (s *shaper) isLiteral(symbol api.Datum) bool {
	_, ok := s.literals[nameOf(symbol)]
	return ok
}

func (s *shaper) isEllipsis(d api.Datum) bool { return isEllipsis(d) && !s.isLiteral(d) }

// symbol is a symbol's shape; false of the ellipsis, since one that may stand where it does is passed over by row.
func (s *shaper) symbol(d api.Datum) (shape, bool) {
	switch {
	case s.isLiteral(d):
		return shape{role: itself, pattern: d}, true
	case isPlain(d, "_"):
		return shape{role: anything}, true
	case isEllipsis(d):
		return shape{}, false
	}
	return s.variable(d)
}

func (s *shaper) variable(d api.Datum) (shape, bool) {
	place := len(s.vars)
	if _, twice := s.known[nameOf(d)]; twice {
		return shape{}, false
	}
	s.known[nameOf(d)] = place
	s.vars = append(s.vars, api.Bind{Name: d.Text, Mark: d.N, Depth: s.ellipses})
	return shape{role: variable, first: place, end: place + 1}, true
}

func (s *shaper) row(d api.Datum) (shape, bool) {
	out := shape{role: row, pattern: d, first: len(s.vars), many: none}
	for i := 0; i < len(d.Items); i++ {
		follows := i+1 < len(d.Items) && s.isEllipsis(d.Items[i+1])
		if follows && out.many != none {
			return shape{}, false
		}
		part, ok := s.part(d.Items[i], follows)
		if !ok {
			return shape{}, false
		}
		if follows {
			out.many = len(out.parts)
			i++
		}
		out.parts = append(out.parts, part)
	}
	for _, r := range restOf(d) {
		rest, ok := s.shape(r)
		if !ok {
			return shape{}, false
		}
		out.rest = &rest
	}
	out.end = len(s.vars)
	return out, true
}

// part is the shape of a part that an ellipsis follows, or none does.
func (s *shaper) part(d api.Datum, follows bool) (shape, bool) {
	if !follows {
		return s.shape(d)
	}
	s.ellipses++
	out, ok := s.shape(d)
	s.ellipses--
	return out, ok
}

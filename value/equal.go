package value

import "tandem/api"

// Eqv tells whether the words are the same, or numbers of the same value.
func (s *Store) Eqv(a, b uint64) bool {
	return a == b || s.isBig(a) && s.isBig(b) && s.sameRaws(a, b)
}

// Equal tells whether values are Eqv, or have the same bytes or Equal parts, and true; false and false, if that takes more than MaxSteps comparisons.
func (s *Store) Equal(a, b uint64) (bool, bool) {
	c := comparison{s, 0}
	same := c.equal(a, b)
	if c.steps > api.MaxSteps {
		return false, false
	}
	return same, true
}

// sameRaws tells whether objects have the same raw fields. Texts, and numbers, are the same just then, since there is one way alone to lay each.
func (s *Store) sameRaws(a, b uint64) bool {
	if s.Raws(a) != s.Raws(b) {
		return false
	}
	for i := range s.Raws(a) {
		if s.raw(a, i) != s.raw(b, i) {
			return false
		}
	}
	return true
}

// comparison counts the words that are held against each other, since things may go round.
type comparison struct {
	*Store
	steps int
}

func (c *comparison) equal(a, b uint64) bool {
	c.steps++
	switch {
	case c.steps > api.MaxSteps:
		return false
	case c.Eqv(a, b):
		return true
	case c.isText(a) && c.isText(b):
		return c.sameRaws(a, b)
	case c.isPair(a) && c.isPair(b), c.isVector(a) && c.isVector(b):
		return c.sameParts(a, b)
	}
	return false
}

// sameParts tells whether objects have as many tagged fields, and those are equal, up to the first that are not.
func (c *comparison) sameParts(a, b uint64) bool {
	if c.Tagged(a) != c.Tagged(b) {
		return false
	}
	for i := range c.Tagged(a) {
		if !c.equal(c.field(a, i), c.field(b, i)) {
			return false
		}
	}
	return true
}

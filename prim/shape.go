package prim

import "tandem/value"

// Kinds of objects.
const (
	pairKind         = 1
	vectorKind       = 2
	textKind         = 3
	closureKind      = 6
	continuationKind = 8
	conditionKind    = 9
)

// How many words objects have, headers too.
const (
	pairWords      = 3
	symbolWords    = 2
	conditionWords = 4
)

// Fields of pairs and of conditions.
const (
	carField       = 0
	cdrField       = 1
	classField     = 0
	messageField   = 1
	irritantsField = 2
)

// isShape tells whether w is an object with just these fields: a kind alone makes no value.
func (c *call) isShape(w uint64, kind, tagged, raws int) bool {
	return c.Kind(w) == kind && c.Tagged(w) == tagged && c.Raws(w) == raws
}

func (c *call) isPair(w uint64) bool { return c.isShape(w, pairKind, 2, 0) }

func (c *call) isVector(w uint64) bool { return c.isShape(w, vectorKind, c.Tagged(w), 0) }

func (c *call) isCondition(w uint64) bool { return c.isShape(w, conditionKind, 3, 0) }

// isProcedure tells whether w may be called. What a continuation's fields are is for the machine to say, so that its kind is enough.
func (c *call) isProcedure(w uint64) bool {
	return c.isShape(w, closureKind, c.Tagged(w), 1) || w&markMask == primMark || c.Kind(w) == continuationKind
}

func (c *call) isNumber(w uint64) bool {
	_, ok := c.Num(w)
	return ok
}

func (c *call) isSymbol(w uint64) bool {
	_, ok := c.Name(w)
	return ok
}

func (c *call) isText(w uint64) bool {
	_, ok := c.textLength(w)
	return ok
}

// field is a tagged field that is known to be there.
func (c *call) field(w uint64, i int) uint64 {
	field, _ := c.Get(w, i)
	return field
}

func (c *call) car(pair uint64) uint64 { return c.field(pair, carField) }

func (c *call) cdr(pair uint64) uint64 { return c.field(pair, cdrField) }

// room is how many words may still be laid.
func room(s *value.Store) int { return s.Size() - s.Used() }

package prim

// tests tell whether values are the same, or of which kind one is.
func (c *call) tests() map[string]does {
	return map[string]does{
		"eq?":        c.testEq,
		"eqv?":       c.testEqv,
		"equal?":     c.testEqual,
		"not":        c.testFalse,
		"boolean?":   c.testBoolean,
		"null?":      c.testEmpty,
		"pair?":      c.testPair,
		"list?":      c.testList,
		"symbol?":    c.testSymbol,
		"string?":    c.testText,
		"char?":      c.testChar,
		"vector?":    c.testVector,
		"procedure?": c.testProcedure,
	}
}

// sameness tells whether two values are the same in some way, and true; false, if that does not end.
type sameness = func(a, b uint64) (same, ends bool)

func (c *call) eq(a, b uint64) (same, ends bool) { return a == b, true }

func (c *call) eqv(a, b uint64) (same, ends bool) { return c.Eqv(a, b), true }

func (c *call) testEq() answer { return c.held(c.eq) }

func (c *call) testEqv() answer { return c.held(c.eqv) }

func (c *call) testEqual() answer { return c.held(c.Equal) }

// held holds two values against each other.
func (c *call) held(is sameness) answer {
	same, ends := is(c.args[0], c.args[1])
	if !ends {
		return beyondLimit()
	}
	return told(same)
}

func (c *call) testFalse() answer { return told(c.args[0] == falseWord) }

func (c *call) testBoolean() answer { return told(c.args[0] == falseWord || c.args[0] == trueWord) }

func (c *call) testEmpty() answer { return told(c.args[0] == emptyList) }

func (c *call) testPair() answer { return told(c.isPair(c.args[0])) }

func (c *call) testList() answer {
	_, ok := c.listLength(c.args[0])
	return told(ok)
}

func (c *call) testSymbol() answer { return told(c.isSymbol(c.args[0])) }

func (c *call) testText() answer { return told(c.isText(c.args[0])) }

func (c *call) testChar() answer { return told(isChar(c.args[0])) }

func (c *call) testVector() answer { return told(c.isVector(c.args[0])) }

func (c *call) testProcedure() answer { return told(c.isProcedure(c.args[0])) }

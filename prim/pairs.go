package prim

func (c *call) pairs() map[string]does {
	return map[string]does{
		"cons":     c.newPair,
		"car":      c.first,
		"cdr":      c.rest,
		"set-car!": c.setFirst,
		"set-cdr!": c.setRest,
	}
}

func (c *call) newPair() answer { return laid(c.Cons(c.args[0], c.args[1])) }

func (c *call) first() answer { return c.part(c.isPair, carField) }

func (c *call) rest() answer { return c.part(c.isPair, cdrField) }

func (c *call) setFirst() answer { return c.setPairField(carField) }

func (c *call) setRest() answer { return c.setPairField(cdrField) }

func (c *call) setPairField(field int) answer {
	if !c.are(c.isPair) {
		return c.wrong(typeClass)
	}
	c.Set(c.args[0], field, c.args[1])
	return done(voidWord)
}

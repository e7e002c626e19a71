package prim

func (c *call) memq() answer { return c.search(c.eq, c.pairItself) }

func (c *call) memv() answer { return c.search(c.eqv, c.pairItself) }

func (c *call) member() answer { return c.search(c.Equal, c.pairItself) }

func (c *call) assq() answer { return c.search(c.eq, c.pairItem) }

func (c *call) assv() answer { return c.search(c.eqv, c.pairItem) }

func (c *call) assoc() answer { return c.search(c.Equal, c.pairItem) }

// choice is what a search may come to at a pair of the chain: a pair, whose car is what is searched for; false, if there is none.
type choice = func(pair uint64) (uint64, bool)

func (c *call) pairItself(pair uint64) (uint64, bool) { return pair, true }

func (c *call) pairItem(pair uint64) (uint64, bool) {
	item := c.car(pair)
	return item, c.isPair(item)
}

// search goes along the chain of the second argument to the first choice whose car is the same as the first argument. What stands behind it is not looked at.
func (c *call) search(is sameness, choose choice) answer {
	w := c.args[1]
	for t := trailFrom(w); c.isPair(w); {
		found, ok := choose(w)
		if !ok {
			return c.wrong(typeClass)
		}
		same, ends := is(c.args[0], c.car(found))
		switch {
		case !ends:
			return beyondLimit()
		case same:
			return done(found)
		}
		w = c.cdr(w)
		if t.round(w) > 0 {
			break
		}
	}
	if w != emptyList {
		return c.wrong(typeClass)
	}
	return told(false)
}

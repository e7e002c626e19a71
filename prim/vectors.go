package prim

import "tandem/api"

func (c *call) vectors() map[string]does {
	return map[string]does{
		"vector":        c.newVector,
		"make-vector":   c.filledVector,
		"vector-length": c.vectorLength,
		"vector-ref":    c.vectorRef,
		"vector-set!":   c.vectorSet,
		"vector->list":  c.vectorToList,
		"list->vector":  c.listToVector,
		"vector-fill!":  c.vectorFill,
	}
}

func (c *call) newVector() answer { return laid(c.Vector(c.args...)) }

func (c *call) filledVector() answer {
	if !c.are(c.isNumber) {
		return c.wrong(typeClass)
	}
	length, ok := c.index(0, api.MaxWords)
	if !ok {
		return c.wrong(rangeClass)
	}
	v, ok := c.Alloc(vectorKind, length, 0)
	if !ok {
		return noRoom()
	}
	item := fixnum(0)
	if len(c.args) == 2 {
		item = c.args[1]
	}
	c.fill(v, item)
	return done(v)
}

// fill makes a word all items of a vector.
func (c *call) fill(v, item uint64) {
	for i := range c.Tagged(v) {
		c.Set(v, i, item)
	}
}

func (c *call) vectorLength() answer {
	if !c.are(c.isVector) {
		return c.wrong(typeClass)
	}
	return done(fixnum(c.Tagged(c.args[0])))
}

func (c *call) vectorRef() answer {
	return c.atItem(func(v uint64, i int) uint64 { return c.field(v, i) })
}

func (c *call) vectorSet() answer {
	return c.atItem(func(v uint64, i int) uint64 {
		c.Set(v, i, c.args[2])
		return voidWord
	})
}

// atItem does something with the item of a vector that the second argument numbers.
func (c *call) atItem(do func(v uint64, i int) uint64) answer {
	if !c.are(c.isVector, c.isNumber) {
		return c.wrong(typeClass)
	}
	i, ok := c.index(1, c.Tagged(c.args[0])-1)
	if !ok {
		return c.wrong(rangeClass)
	}
	return done(do(c.args[0], i))
}

func (c *call) vectorToList() answer {
	if !c.are(c.isVector) {
		return c.wrong(typeClass)
	}
	items := make([]uint64, c.Tagged(c.args[0]))
	for i := range items {
		items[i] = c.field(c.args[0], i)
	}
	return laid(c.List(items...))
}

func (c *call) listToVector() answer {
	items, ok := c.items(c.args[0])
	if !ok {
		return c.wrong(typeClass)
	}
	return laid(c.Vector(items...))
}

func (c *call) vectorFill() answer {
	if !c.are(c.isVector) {
		return c.wrong(typeClass)
	}
	c.fill(c.args[0], c.args[1])
	return done(voidWord)
}

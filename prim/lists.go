package prim

import (
	"math"
	"slices"
)

func (c *call) lists() map[string]does {
	return map[string]does{
		"list":      c.newList,
		"length":    c.length,
		"append":    c.appendLists,
		"reverse":   c.reverse,
		"list-ref":  c.listRef,
		"list-tail": c.listTail,
		"memq":      c.memq,
		"memv":      c.memv,
		"member":    c.member,
		"assq":      c.assq,
		"assv":      c.assv,
		"assoc":     c.assoc,
	}
}

func (c *call) newList() answer { return laid(c.List(c.args...)) }

func (c *call) length() answer {
	count, ok := c.listLength(c.args[0])
	if !ok {
		return c.wrong(typeClass)
	}
	return done(fixnum(count))
}

// appendLists lays the items of all lists ahead of the last argument. They are counted first: one list handed in again and again has more of them than the heap has words.
func (c *call) appendLists() answer {
	if len(c.args) == 0 {
		return done(emptyList)
	}
	last := len(c.args) - 1
	count := 0
	for _, list := range c.args[:last] {
		n, ok := c.listLength(list)
		if !ok {
			return c.wrong(typeClass)
		}
		count += n
	}
	if count > room(c.Store)/pairWords {
		return noRoom()
	}
	end := c.args[last]
	for _, list := range slices.Backward(c.args[:last]) {
		end = c.ahead(list, end)
	}
	return done(end)
}

// ahead lays the items of a list ahead of an end, for which there is room.
func (c *call) ahead(list, end uint64) uint64 {
	items, _ := c.items(list)
	for _, w := range slices.Backward(items) {
		end, _ = c.Cons(w, end)
	}
	return end
}

func (c *call) reverse() answer {
	items, ok := c.items(c.args[0])
	if !ok {
		return c.wrong(typeClass)
	}
	slices.Reverse(items)
	return laid(c.List(items...))
}

func (c *call) listRef() answer {
	return c.dropped(func(rest uint64) (uint64, bool) { return c.car(rest), c.isPair(rest) })
}

func (c *call) listTail() answer {
	return c.dropped(func(rest uint64) (uint64, bool) { return rest, true })
}

// dropped is what is told of the rest of a chain behind as many pairs as the second argument says; false says that the chain ended too soon for it.
func (c *call) dropped(tell func(rest uint64) (uint64, bool)) answer {
	if !c.isNumber(c.args[1]) {
		return c.wrong(typeClass)
	}
	count, ok := c.index(1, math.MaxInt)
	if !ok {
		return c.wrong(rangeClass)
	}
	rest, ok := c.drop(c.args[0], count)
	if !ok {
		return c.wrong(rangeClass)
	}
	w, ok := tell(rest)
	if !ok {
		return c.wrong(rangeClass)
	}
	return done(w)
}

package prim

import (
	"slices"

	"tandem/api"
	"tandem/num"
)

// sums are what goes with as many numbers as one likes, and is done most.
func (c *call) sums() map[string]does {
	return map[string]does{
		"+":  c.add,
		"-":  c.subtract,
		"*":  c.multiply,
		"=":  c.areSame,
		"<":  c.areRising,
		">":  c.areFalling,
		"<=": c.neverFall,
		">=": c.neverRise,
	}
}

// nums are the arguments as numbers; false, if one of them is none.
func (c *call) nums() ([]api.Num, bool) {
	all := make([]api.Num, len(c.args))
	for i, w := range c.args {
		n, ok := c.Num(w)
		if !ok {
			return nil, false
		}
		all[i] = n
	}
	return all, true
}

// laidNumber is a number as an answer; one beyond the fixnums is laid, whether or not it was an argument.
func (c *call) laidNumber(n api.Num) answer {
	if isTooLong(n) {
		return beyondLimit()
	}
	return laid(c.Number(n))
}

func isTooLong(n api.Num) bool { return len(n.Mag) > api.MaxLimbs }

func isZero(n api.Num) bool { return len(n.Mag) == 0 }

func (c *call) add() answer {
	all, ok := c.nums()
	if !ok {
		return c.wrong(typeClass)
	}
	return c.laidNumber(num.Add(all...))
}

func (c *call) subtract() answer {
	all, ok := c.nums()
	switch {
	case !ok:
		return c.wrong(typeClass)
	case len(all) == 1:
		return c.laidNumber(num.Neg(all[0]))
	}
	return c.laidNumber(num.Sub(all[0], num.Add(all[1:]...)))
}

// multiply gives up as soon as the product is too long: no factor but 0 makes it shorter again, and that of many great ones would take very long.
func (c *call) multiply() answer {
	all, ok := c.nums()
	switch {
	case !ok:
		return c.wrong(typeClass)
	case slices.ContainsFunc(all, isZero):
		return done(fixnum(0))
	}
	product := num.Of(1)
	for _, n := range all {
		product = num.Mul(product, n)
		if isTooLong(product) {
			return beyondLimit()
		}
	}
	return c.laidNumber(product)
}

func (c *call) areSame() answer { return c.compared(func(order int) bool { return order == 0 }) }

func (c *call) areRising() answer { return c.compared(func(order int) bool { return order < 0 }) }

func (c *call) areFalling() answer { return c.compared(func(order int) bool { return order > 0 }) }

func (c *call) neverFall() answer { return c.compared(func(order int) bool { return order <= 0 }) }

func (c *call) neverRise() answer { return c.compared(func(order int) bool { return order >= 0 }) }

// compared tells whether the order of each number and the next one is right.
func (c *call) compared(right func(order int) bool) answer {
	all, ok := c.nums()
	if !ok {
		return c.wrong(typeClass)
	}
	for i := range len(all) - 1 {
		if !right(num.Cmp(all[i], all[i+1])) {
			return told(false)
		}
	}
	return told(true)
}

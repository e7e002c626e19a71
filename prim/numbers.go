package prim

import (
	"slices"
	"strings"

	"tandem/api"
	"tandem/num"
)

const (
	// limitBits is how many binary digits an answer may have.
	limitBits = api.MaxLimbs * 32
	// limitDigits is how many decimal digits an answer may have at most: 2^8192 has 2467.
	limitDigits = 2467
)

func (c *call) numbers() map[string]does {
	return map[string]does{
		"quotient":       c.quotient,
		"remainder":      c.remainder,
		"modulo":         c.modulo,
		"abs":            c.absolute,
		"min":            c.least,
		"max":            c.greatest,
		"gcd":            c.commonDivisor,
		"expt":           c.power,
		"zero?":          c.testZero,
		"positive?":      c.testPositive,
		"negative?":      c.testNegative,
		"odd?":           c.testOdd,
		"even?":          c.testEven,
		"number?":        c.testNumber,
		"number->string": c.numberToText,
		"string->number": c.textToNumber,
	}
}

func (c *call) quotient() answer {
	return c.divided(func(a, b api.Num) (api.Num, bool) {
		q, _, ok := num.Truncate(a, b)
		return q, ok
	})
}

func (c *call) remainder() answer {
	return c.divided(func(a, b api.Num) (api.Num, bool) {
		_, r, ok := num.Truncate(a, b)
		return r, ok
	})
}

func (c *call) modulo() answer {
	return c.divided(func(a, b api.Num) (api.Num, bool) {
		_, r, ok := num.Floor(a, b)
		return r, ok
	})
}

// divided is what comes of two numbers; false says that the second one is 0.
func (c *call) divided(divide func(a, b api.Num) (api.Num, bool)) answer {
	all, ok := c.nums()
	if !ok {
		return c.wrong(typeClass)
	}
	n, ok := divide(all[0], all[1])
	if !ok {
		return c.wrong(divideClass)
	}
	return c.laidNumber(n)
}

func (c *call) absolute() answer {
	return c.joined(func(all ...api.Num) api.Num { return api.Num{Mag: all[0].Mag} })
}

func (c *call) least() answer {
	return c.joined(func(all ...api.Num) api.Num { return slices.MinFunc(all, num.Cmp) })
}

func (c *call) greatest() answer {
	return c.joined(func(all ...api.Num) api.Num { return slices.MaxFunc(all, num.Cmp) })
}

func (c *call) commonDivisor() answer { return c.joined(num.Gcd) }

// joined is what numbers make together.
func (c *call) joined(join func(all ...api.Num) api.Num) answer {
	all, ok := c.nums()
	if !ok {
		return c.wrong(typeClass)
	}
	return c.laidNumber(join(all...))
}

func (c *call) power() answer {
	all, ok := c.nums()
	if !ok {
		return c.wrong(typeClass)
	}
	exponent, ok := num.Small(all[1])
	if !ok || exponent < 0 {
		return c.wrong(rangeClass)
	}
	n, ok := num.Power(all[0], int(exponent), limitBits)
	if !ok {
		return beyondLimit()
	}
	return c.laidNumber(n)
}

func (c *call) testZero() answer { return c.tested(isZero) }

func (c *call) testPositive() answer {
	return c.tested(func(n api.Num) bool { return !n.Neg && !isZero(n) })
}

func (c *call) testNegative() answer { return c.tested(func(n api.Num) bool { return n.Neg }) }

func (c *call) testOdd() answer { return c.tested(isOdd) }

func (c *call) testEven() answer { return c.tested(func(n api.Num) bool { return !isOdd(n) }) }

func isOdd(n api.Num) bool { return !isZero(n) && n.Mag[0]%2 == 1 }

// tested tells whether something is so of a number.
func (c *call) tested(is func(n api.Num) bool) answer {
	n, ok := c.Num(c.args[0])
	if !ok {
		return c.wrong(typeClass)
	}
	return told(is(n))
}

func (c *call) testNumber() answer { return told(c.isNumber(c.args[0])) }

func (c *call) numberToText() answer {
	n, ok := c.Num(c.args[0])
	if !ok {
		return c.wrong(typeClass)
	}
	return laid(c.Text([]byte(num.Text(n))))
}

func (c *call) textToNumber() answer {
	b, ok := c.Bytes(c.args[0])
	if !ok {
		return c.wrong(typeClass)
	}
	if hasTooManyDigits(string(b)) {
		return beyondLimit()
	}
	n, ok := num.Parse(string(b))
	if !ok {
		return told(false)
	}
	return c.laidNumber(n)
}

// hasTooManyDigits tells whether a text is surely that of a number that is too long: such a one would take very long to parse.
func hasTooManyDigits(text string) bool {
	if text != "" && (text[0] == '+' || text[0] == '-') {
		text = text[1:]
	}
	text = strings.TrimLeft(text, "0")
	return len(text) > limitDigits && strings.Trim(text, "0123456789") == ""
}

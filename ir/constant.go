package ir

import (
	"tandem/api"
	"tandem/num"
	"tandem/prim"
)

const mostChar = 255

// mostParts is how many parts of a constant are looked at.
const mostParts = 10000

// literalOf is a constant that is no object; false of another one.
func literalOf(d api.Datum) (literal, bool) {
	switch d.Kind {
	case api.Int:
		n, ok := num.Small(d.Num)
		return literal{kind: api.Int, n: int(n)}, ok
	case api.Bool:
		return literal{kind: api.Bool, n: d.N}, d.N == 0 || d.N == 1
	case api.Char:
		return literal{kind: api.Char, n: d.N}, d.N >= 0 && d.N <= mostChar
	case api.Symbol:
		return literal{kind: api.Symbol, text: d.Text}, d.N == 0
	case api.Proc:
		return literal{kind: api.Proc, n: d.N}, d.Text == "" && isPrimitive(d.N)
	case api.List:
		return literal{kind: api.List}, len(d.Items) == 0 && len(d.Rest) == 0
	}
	return literal{kind: api.Void}, d.Kind == api.Void
}

func isPrimitive(n int) bool {
	_, ok := prim.Get(n)
	return ok
}

// isObject tells whether a constant is laid as an object when it is pushed. One that the machine refuses, and one that is too long for that to be told soon, is left to the baseline machine.
func isObject(d api.Datum) bool {
	parts := mostParts
	return isLaid(d, 1, &parts)
}

// isLaid tells whether the machine lays a constant, or a part of one, that stands that deep.
func isLaid(d api.Datum, depth int, parts *int) bool {
	*parts--
	if *parts < 0 || depth > api.MaxDepth {
		return false
	}
	switch d.Kind {
	case api.Int:
		return len(num.Add(d.Num).Mag) <= api.MaxLimbs
	case api.Bool:
		return d.N == 0 || d.N == 1
	case api.Char:
		return d.N >= 0 && d.N <= mostChar
	case api.String, api.Symbol, api.Void:
		return true
	case api.List:
		isRight := len(d.Rest) == 0 || len(d.Rest) == 1 && len(d.Items) > 0
		return isRight && areLaid(d.Items, depth+1, parts) && areLaid(d.Rest, depth+1, parts)
	case api.Vector:
		return areLaid(d.Items, depth+1, parts)
	}
	return false
}

func areLaid(all []api.Datum, depth int, parts *int) bool {
	for _, d := range all {
		if !isLaid(d, depth, parts) {
			return false
		}
	}
	return true
}

package pack

import "tandem/api"

// mayBeWritten tells whether Read could make a program again of what Write makes of it.
func mayBeWritten(ps []api.Proto) bool {
	c := counter{parts: api.MaxSteps}
	for _, p := range ps {
		if !isNumber(p.Args) || !isNumber(p.Free) || !codeFits(p.Code) || !c.dataFit(p.Consts, api.MaxDepth) {
			return false
		}
	}
	return true
}

func codeFits(code []api.Ins) bool {
	for _, i := range code {
		if !isNumber(i.Op) || !isSigned(i.A) || !isSigned(i.B) {
			return false
		}
	}
	return true
}

// counter knows how many parts the constants may still have.
type counter struct{ parts int }

// dataFit takes data off the parts ahead of looking at them, so that lists that stand in one another many times over are soon too many.
func (c *counter) dataFit(data []api.Datum, deep int) bool {
	if len(data) == 0 {
		return true
	}
	if deep == 0 || len(data) > c.parts {
		return false
	}
	c.parts -= len(data)
	for _, d := range data {
		if !fits(d) || !c.dataFit(d.Items, deep-1) || !c.dataFit(d.Rest, deep-1) {
			return false
		}
	}
	return true
}

// fits tells whether a datum may be written, if its parts may.
func fits(d api.Datum) bool {
	has, ok := fieldsOf(d.Kind)
	return ok &&
		isSigned(d.N) && (has.n || d.N == 0) &&
		isCanonical(d.Num) && (has.num || len(d.Num.Mag) == 0) &&
		(has.text || d.Text == "") &&
		(has.items || len(d.Items) == 0) &&
		restFits(d)
}

// fields are those beside Kind and Rest that a kind has.
type fields struct{ n, num, text, items bool }

// fieldsOf is false, if data of that kind are never written.
func fieldsOf(kind int) (fields, bool) {
	switch kind {
	case api.Int:
		return fields{num: true}, true
	case api.Bool, api.Char, api.Proc:
		return fields{n: true}, true
	case api.String:
		return fields{text: true}, true
	case api.Symbol:
		return fields{text: true, n: true}, true
	case api.List, api.Vector:
		return fields{items: true}, true
	case api.Void:
		return fields{}, true
	}
	return fields{}, false
}

// isCanonical tells whether a number is the only one of its value: no limb 0 at its end, and 0 not below itself.
func isCanonical(n api.Num) bool {
	size := len(n.Mag)
	if size == 0 {
		return !n.Neg
	}
	return n.Mag[size-1] != 0
}

// restFits: a Rest is one datum behind a list's items; a list there would be more of these items, told in another way.
func restFits(d api.Datum) bool {
	switch len(d.Rest) {
	case 0:
		return true
	case 1:
		return d.Kind == api.List && len(d.Items) > 0 && d.Rest[0].Kind != api.List
	}
	return false
}

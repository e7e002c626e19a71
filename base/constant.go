package base

import (
	"tandem/api"
	"tandem/num"
	"tandem/prim"
)

// What a constant has come to.
const (
	isGiven = iota
	isLaid
	isRefused
)

const mostChar = 255

// constant is a constant: a datum, till it is pushed first, then a word.
type constant struct {
	state int
	datum api.Datum
	word  uint64
}

// constantOf is a constant that was handed in, in new memory. The undefined value and primitives, which Put knows nothing of, are immediates.
func constantOf(d api.Datum) constant {
	switch {
	case d.Kind == api.Symbol && d.Text == "" && d.N == -1:
		return constant{state: isLaid, word: undefinedWord}
	case d.Kind == api.Proc && d.Text == "" && isPrimitive(d.N):
		return constant{state: isLaid, word: primitiveWord(d.N)}
	}
	d, ok := copied(d, 1)
	if !ok {
		return constant{state: isRefused}
	}
	return constant{datum: d}
}

func isPrimitive(n int) bool {
	_, ok := prim.Get(n)
	return ok
}

// copied is a datum that stands that deep, in new memory; false, if Put refuses it however much room there is: what Put says does not tell that from a want of room.
func copied(d api.Datum, depth int) (api.Datum, bool) {
	if depth > api.MaxDepth {
		return api.Datum{}, false
	}
	bare := api.Datum{Kind: d.Kind, N: d.N, Text: d.Text}
	switch d.Kind {
	case api.String, api.Symbol, api.Void:
		return bare, true
	case api.Bool:
		return bare, d.N == 0 || d.N == 1
	case api.Char:
		return bare, d.N >= 0 && d.N <= mostChar
	case api.Int:
		bare.Num = num.Add(d.Num)
		return bare, len(bare.Num.Mag) <= api.MaxLimbs
	case api.List:
		return copiedList(d, depth+1)
	case api.Vector:
		items, ok := copiedAll(d.Items, depth+1)
		return api.Datum{Kind: api.Vector, Items: items}, ok
	}
	return api.Datum{}, false
}

// copiedList is a list whose parts stand that deep.
func copiedList(d api.Datum, depth int) (api.Datum, bool) {
	if len(d.Rest) > 1 || len(d.Rest) == 1 && len(d.Items) == 0 {
		return api.Datum{}, false
	}
	items, ok := copiedAll(d.Items, depth)
	rest, also := copiedAll(d.Rest, depth)
	return api.Datum{Kind: api.List, Items: items, Rest: rest}, ok && also
}

func copiedAll(data []api.Datum, depth int) ([]api.Datum, bool) {
	var all []api.Datum
	for _, d := range data {
		one, ok := copied(d, depth)
		if !ok {
			return nil, false
		}
		all = append(all, one)
	}
	return all, true
}

// constant pushes a constant, which is laid when it is pushed first.
func (m *Machine) constant(in api.Ins) {
	c := &m.protos[m.top().code].consts[in.A]
	switch c.state {
	case isRefused:
		m.end(api.Bound)
		return
	case isGiven:
		w, ok := m.lay(func() (uint64, bool) { return m.Put(c.datum) })
		if !ok {
			return
		}
		*c = constant{state: isLaid, word: w}
	}
	m.push(c.word)
}

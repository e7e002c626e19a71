package value

import "tandem/api"

// Take is the datum of a value, and true; false, if it has more than most parts (or than MaxSteps), or is deeper than MaxDepth.
func (s *Store) Take(w uint64, most int) (api.Datum, bool) {
	t := taking{s, min(most, api.MaxSteps)}
	return t.datum(1, w)
}

// taking counts down how many parts a datum may still have, since values may go round.
type taking struct {
	*Store
	left int
}

// datum is the datum of a value that stands that deep.
func (t *taking) datum(depth int, w uint64) (api.Datum, bool) {
	if depth > api.MaxDepth || t.left <= 0 {
		return api.Datum{}, false
	}
	t.left--
	switch {
	case t.isPair(w):
		return t.list(depth, w)
	case t.isVector(w):
		return t.vector(depth, w)
	case t.isCondition(w):
		return t.condition(depth, w)
	}
	return t.simple(w), true
}

// list is the List of a chain of pairs; what ends it is its Rest, but for the empty list.
func (t *taking) list(depth int, w uint64) (api.Datum, bool) {
	items, end, ok := t.chain(depth+1, w)
	if !ok {
		return api.Datum{}, false
	}
	d := api.Datum{Kind: api.List, Items: items}
	if end == emptyList {
		return d, true
	}
	rest, ok := t.datum(depth+1, end)
	if !ok {
		return api.Datum{}, false
	}
	d.Rest = []api.Datum{rest}
	return d, true
}

// chain is the data of a chain of pairs, and what ends it.
func (t *taking) chain(depth int, w uint64) (items []api.Datum, end uint64, ok bool) {
	for t.isPair(w) {
		d, ok := t.datum(depth, t.field(w, 0))
		if !ok {
			return nil, 0, false
		}
		items = append(items, d)
		w = t.field(w, 1)
	}
	return items, w, true
}

func (t *taking) vector(depth int, w uint64) (api.Datum, bool) {
	v := api.Datum{Kind: api.Vector}
	for i := range t.Tagged(w) {
		d, ok := t.datum(depth+1, t.field(w, i))
		if !ok {
			return api.Datum{}, false
		}
		v.Items = append(v.Items, d)
	}
	return v, true
}

// condition is the Cond of a class, a message, and irritants, whatever ends them.
func (t *taking) condition(depth int, w uint64) (api.Datum, bool) {
	message, ok := t.datum(depth+1, t.field(w, 1))
	if !ok {
		return api.Datum{}, false
	}
	irritants, _, ok := t.chain(depth+1, t.field(w, 2))
	if !ok {
		return api.Datum{}, false
	}
	class, _ := t.Name(t.field(w, 0))
	items := append([]api.Datum{message}, irritants...)
	return api.Datum{Kind: api.Cond, Text: class, Items: items}, true
}

// simple is the datum of a value without parts; Void of what is nothing else.
func (s *Store) simple(w uint64) api.Datum {
	if n, ok := s.Num(w); ok {
		return api.Datum{Kind: api.Int, Num: n}
	}
	if bytes, ok := s.Bytes(w); ok {
		return api.Datum{Kind: api.String, Text: string(bytes)}
	}
	if name, ok := s.Name(w); ok {
		return api.Datum{Kind: api.Symbol, Text: name}
	}
	if s.isClosure(w) {
		return api.Datum{Kind: api.Proc, N: int(s.raw(w, 0))}
	}
	return immediate(w)
}

// immediate is the datum of an immediate; Void of what has none.
func immediate(w uint64) api.Datum {
	mark, n := w&markMask, w>>numberAt
	switch {
	case w == falseWord:
		return api.Datum{Kind: api.Bool}
	case w == trueWord:
		return api.Datum{Kind: api.Bool, N: 1}
	case w == emptyList:
		return api.Datum{Kind: api.List}
	case mark == charMark && n <= mostChar:
		return api.Datum{Kind: api.Char, N: int(n)}
	case mark == primMark:
		return api.Datum{Kind: api.Proc, N: int(n)}
	}
	return api.Datum{Kind: api.Void}
}

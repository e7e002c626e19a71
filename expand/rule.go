package expand

import "tandem/api"

// rule is a macro's rule. Its symbols are told by numbers, so that match takes none of them for an ellipsis that is none: first those of the pattern, in the order in which they stand, then those that the template has of its own.
type rule struct {
	pattern, template api.Datum         // the pattern without its first item
	literals          map[int]api.Datum // each place of a literal has a number
	own               []name
}

// Numbers are told as marks below 0, which no symbol of a program has.
func numbered(n int) api.Datum { return symbol("", -1-n) }

// bindOf is a bind of the symbol of that number.
func bindOf(n int, d api.Datum) api.Bind { return api.Bind{Mark: numbered(n).N, D: d} }

// ruler makes a rule, in the scope where the macro is defined.
type ruler struct {
	*scope
	rule
	named map[name]int // the literals' names
	known map[name]int // the numbers of variables, then of the template's own symbols
	count int
}

func ruleOf(s *scope, literals []api.Datum, pattern, template api.Datum) rule {
	r := ruler{scope: s, named: map[name]int{}, known: map[name]int{}}
	r.literals = map[int]api.Datum{}
	for i, l := range literals {
		r.named[nameOf(l)] = i
	}
	pattern.Items = pattern.Items[1:]
	r.pattern = r.parts(pattern, r.patternOf)
	r.template = r.templateOf(template)
	return r.rule
}

// parts is a list or a vector with each of its parts made anew.
func (r *ruler) parts(d api.Datum, part func(api.Datum) api.Datum) api.Datum {
	out := api.Datum{Kind: d.Kind}
	for _, item := range d.Items {
		out.Items = append(out.Items, part(item))
	}
	if d.Kind == api.List && len(d.Rest) > 0 {
		out.Rest = []api.Datum{part(d.Rest[0])}
	}
	return out
}

// next is a new number.
func (r *ruler) next() int {
	r.count++
	return r.count - 1
}

func (r *ruler) patternOf(d api.Datum) api.Datum {
	switch d.Kind {
	case api.List, api.Vector:
		return r.parts(d, r.patternOf)
	case api.Symbol:
		return r.patternSymbol(d)
	}
	return d
}

// patternSymbol makes a variable of a literal, too: what stands there is looked at when the rest matches.
func (r *ruler) patternSymbol(d api.Datum) api.Datum {
	if _, ok := r.named[nameOf(d)]; ok {
		n := r.next()
		r.literals[n] = d
		return numbered(n)
	}
	for _, word := range []special{"...", "_"} {
		if r.is(d, word) {
			return symbol(string(word), 0)
		}
	}
	return numbered(r.number(nameOf(d)))
}

// number is a known name's number, or else a new one.
func (r *ruler) number(n name) int {
	if _, ok := r.known[n]; !ok {
		r.known[n] = r.next()
	}
	return r.known[n]
}

func (r *ruler) templateOf(d api.Datum) api.Datum {
	switch {
	case r.is(d, "..."):
		return symbol("...", 0)
	case isRow(d, 2) && len(d.Items) == 2 && r.is(d.Items[0], "..."):
		return list(symbol("...", 0), r.escaped(d.Items[1]))
	case d.Kind == api.List, d.Kind == api.Vector:
		return r.parts(d, r.templateOf)
	}
	return r.escaped(d)
}

// escaped is a template in which an ellipsis is a symbol as others are.
func (r *ruler) escaped(d api.Datum) api.Datum {
	switch d.Kind {
	case api.List, api.Vector:
		return r.parts(d, r.escaped)
	case api.Symbol:
		return r.templateSymbol(nameOf(d))
	}
	return d
}

func (r *ruler) templateSymbol(n name) api.Datum {
	if _, ok := r.known[n]; !ok {
		r.own = append(r.own, n)
	}
	return numbered(r.number(n))
}

package expand

import "tandem/api"

// pairs are symbols, and what each is bound to.
type pairs struct{ symbols, values []api.Datum }

// pairsOf are those of a list of lists of two.
func pairsOf(d api.Datum) (pairs, bool) {
	if !isRow(d, 0) {
		return pairs{}, false
	}
	var p pairs
	for _, pair := range d.Items {
		if !isRow(pair, 2) || len(pair.Items) > 2 || pair.Items[0].Kind != api.Symbol {
			return pairs{}, false
		}
		p.symbols = append(p.symbols, pair.Items[0])
		p.values = append(p.values, pair.Items[1])
	}
	return p, true
}

// distinctPairs are pairs ahead of a body, no symbol twice.
func distinctPairs(form api.Datum) (pairs, bool) {
	if len(form.Items) < 3 {
		return pairs{}, false
	}
	p, ok := pairsOf(form.Items[1])
	return p, ok && areDistinct(p.symbols)
}

func (x *expander) let(s *scope, form api.Datum) (step, api.Errno) {
	if len(form.Items) > 1 && form.Items[1].Kind == api.Symbol {
		return x.namedLet(s, form)
	}
	p, ok := distinctPairs(form)
	switch {
	case !ok:
		return step{}, api.ErrForm
	case len(p.symbols) == 0:
		return x.body(s, form.Items[2:])
	}
	vars := x.variables(len(p.symbols))
	body := x.within(s, p.symbols, vars, form.Items[2:])
	return done(x.build(api.Core{Kind: api.CLet, Vars: vars}, append(x.each(s, p.values), body)...))
}

func (x *expander) namedLet(s *scope, form api.Datum) (step, api.Errno) {
	self := form.Items[1]
	form.Items = form.Items[1:]
	p, ok := distinctPairs(form)
	if !ok {
		return step{}, api.ErrForm
	}
	operator := func() (api.Core, api.Errno) {
		vars := x.variables(1)
		in := s.with([]api.Datum{self}, vars)
		value := func() (api.Core, api.Errno) { return x.procedure(in, list(p.symbols...), form.Items[2:]) }
		return x.build(api.Core{Kind: api.CRec, Vars: vars}, named(self.Text, value), x.local(vars[0]))
	}
	return done(x.build(api.Core{Kind: api.CCall}, append([]part{operator}, x.each(s, p.values)...)...))
}

func (x *expander) letStar(s *scope, form api.Datum) (step, api.Errno) {
	if len(form.Items) < 3 {
		return step{}, api.ErrForm
	}
	p, ok := pairsOf(form.Items[1])
	if !ok {
		return step{}, api.ErrForm
	}
	return x.nested(s, p, form.Items[2:])
}

// nested are lets, one in the other.
func (x *expander) nested(s *scope, p pairs, forms []api.Datum) (step, api.Errno) {
	if len(p.symbols) == 0 {
		return x.body(s, forms)
	}
	vars := x.variables(1)
	body := func() (api.Core, api.Errno) {
		return x.finish(x.nested(s.with(p.symbols[:1], vars), pairs{p.symbols[1:], p.values[1:]}, forms))
	}
	return done(x.build(api.Core{Kind: api.CLet, Vars: vars}, x.of(s, p.values[0]), body))
}

func (x *expander) letrec(s *scope, form api.Datum) (step, api.Errno) {
	p, ok := distinctPairs(form)
	switch {
	case !ok:
		return step{}, api.ErrForm
	case len(p.symbols) == 0:
		return x.body(s, form.Items[2:])
	}
	vars := x.variables(len(p.symbols))
	in := s.with(p.symbols, vars)
	body := func() (api.Core, api.Errno) { return x.finish(x.body(in, form.Items[2:])) }
	return done(x.build(api.Core{Kind: api.CRec, Vars: vars}, append(x.each(in, p.values), body)...))
}

// letSyntax is a scope of macros that are defined outside of it.
func (x *expander) letSyntax(s *scope, form api.Datum) (step, api.Errno) {
	p, ok := distinctPairs(form)
	if !ok {
		return step{}, api.ErrForm
	}
	macros := make([]*macro, len(p.symbols))
	for i, rules := range p.values {
		macros[i] = &macro{scope: s}
		if e := macros[i].learn(rules); e != api.OK {
			return step{}, e
		}
	}
	in := s.inner()
	for i, m := range macros {
		in.bind(nameOf(p.symbols[i]), m)
	}
	return x.body(in, form.Items[2:])
}

// letrecSyntax is a scope of macros that are defined within it: they are bound ahead of their rules being looked at.
func (x *expander) letrecSyntax(s *scope, form api.Datum) (step, api.Errno) {
	p, ok := distinctPairs(form)
	if !ok {
		return step{}, api.ErrForm
	}
	in := s.inner()
	macros := make([]*macro, len(p.symbols))
	for i, symbol := range p.symbols {
		macros[i] = &macro{scope: in}
		in.bind(nameOf(symbol), macros[i])
	}
	for i, rules := range p.values {
		if e := macros[i].learn(rules); e != api.OK {
			return step{}, e
		}
	}
	return x.body(in, form.Items[2:])
}

package expand

import "tandem/api"

func (x *expander) quote(s *scope, form api.Datum) (step, api.Errno) {
	if len(form.Items) != 2 {
		return step{}, api.ErrForm
	}
	return done(x.constant(form.Items[1])())
}

func (x *expander) conditional(s *scope, form api.Datum) (step, api.Errno) {
	parts := x.each(s, form.Items[1:])
	switch len(parts) {
	case 2:
		return done(x.choice(parts[0], parts[1], x.constant(void()))())
	case 3:
		return done(x.choice(parts...)())
	}
	return step{}, api.ErrForm
}

// choice is a test, and what is chosen by it.
func (x *expander) choice(parts ...part) part {
	return x.node(api.Core{Kind: api.CIf}, parts...)
}

func (x *expander) lambda(s *scope, form api.Datum) (step, api.Errno) {
	if len(form.Items) < 3 {
		return step{}, api.ErrForm
	}
	return done(x.procedure(s, form.Items[1], form.Items[2:]))
}

func (x *expander) procedure(s *scope, formals api.Datum, forms []api.Datum) (api.Core, api.Errno) {
	symbols, rest, ok := formalsOf(formals)
	if !ok {
		return api.Core{}, api.ErrForm
	}
	vars := x.variables(len(symbols))
	return x.build(api.Core{Kind: api.CLambda, Vars: vars, Rest: rest}, x.within(s, symbols, vars, forms))
}

// formalsOf are the symbols of formals, and whether the last one takes what is left over.
func formalsOf(d api.Datum) (symbols []api.Datum, rest, ok bool) {
	switch {
	case d.Kind == api.Symbol:
		return []api.Datum{d}, true, true
	case d.Kind != api.List:
		return nil, false, false
	}
	symbols = fresh(d.Items)
	if len(d.Rest) > 0 {
		symbols, rest = append(symbols, d.Rest[0]), true
	}
	return symbols, rest, areSymbols(symbols) && areDistinct(symbols)
}

func (x *expander) assignment(s *scope, form api.Datum) (step, api.Errno) {
	if len(form.Items) != 3 || form.Items[1].Kind != api.Symbol {
		return step{}, api.ErrForm
	}
	c, e := s.means(form.Items[1]).assign()
	if e != api.OK {
		return step{}, e
	}
	return done(x.build(c, x.of(s, form.Items[2])))
}

func (x *expander) begin(s *scope, form api.Datum) (step, api.Errno) {
	if len(form.Items) < 2 {
		return step{}, api.ErrForm
	}
	return x.run(s, form.Items[1:])
}

func (x *expander) and(s *scope, form api.Datum) (step, api.Errno) {
	return x.conjunction(s, form.Items[1:])
}

func (x *expander) conjunction(s *scope, forms []api.Datum) (step, api.Errno) {
	switch len(forms) {
	case 0:
		return done(x.constant(boolean(1))())
	case 1:
		return goOn(s, forms[0])
	}
	rest := func() (api.Core, api.Errno) { return x.finish(x.conjunction(s, forms[1:])) }
	return done(x.choice(x.of(s, forms[0]), rest, x.constant(boolean(0)))())
}

func (x *expander) or(s *scope, form api.Datum) (step, api.Errno) {
	return x.disjunction(s, form.Items[1:])
}

func (x *expander) disjunction(s *scope, forms []api.Datum) (step, api.Errno) {
	switch len(forms) {
	case 0:
		return done(x.constant(boolean(0))())
	case 1:
		return goOn(s, forms[0])
	}
	rest := func() (api.Core, api.Errno) { return x.finish(x.disjunction(s, forms[1:])) }
	return done(x.either(x.of(s, forms[0]), rest)())
}

// either is a value, if it is not false, else another one.
func (x *expander) either(value, other part) part {
	return x.holding(value, func(v int) part { return x.choice(x.local(v), x.local(v), other) })
}

// holding is what is made with a new variable that has a value.
func (x *expander) holding(value part, body func(v int) part) part {
	return func() (api.Core, api.Errno) {
		vars := x.variables(1)
		return x.build(api.Core{Kind: api.CLet, Vars: vars}, value, body(vars[0]))
	}
}

func (x *expander) when(s *scope, form api.Datum) (step, api.Errno) {
	if len(form.Items) < 3 {
		return step{}, api.ErrForm
	}
	return done(x.choice(x.of(s, form.Items[1]), x.forms(s, form.Items[2:]), x.constant(void()))())
}

func (x *expander) unless(s *scope, form api.Datum) (step, api.Errno) {
	if len(form.Items) < 3 {
		return step{}, api.ErrForm
	}
	return done(x.choice(x.of(s, form.Items[1]), x.constant(void()), x.forms(s, form.Items[2:]))())
}

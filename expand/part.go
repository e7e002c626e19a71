package expand

import "tandem/api"

// part makes a part of a core form when its turn comes: core forms, and variables, are counted from the outside in, left to right.
type part func() (api.Core, api.Errno)

func (x *expander) node(c api.Core, parts ...part) part {
	return func() (api.Core, api.Errno) { return x.build(c, parts...) }
}

func (x *expander) constant(d api.Datum) part {
	return x.node(api.Core{Kind: api.CConst, D: []api.Datum{Strip(d)}})
}

func (x *expander) local(v int) part { return x.node(api.Core{Kind: api.CLocal, N: v}) }

// prim is a call of a primitive, whatever its name is bound to.
func (x *expander) prim(name string, operands ...part) part {
	operator := x.node(api.Core{Kind: api.CPrim, N: int(x.prims[name])})
	return x.node(api.Core{Kind: api.CCall}, append([]part{operator}, operands...)...)
}

func (x *expander) of(s *scope, form api.Datum) part {
	return func() (api.Core, api.Errno) { return x.expression(s, form) }
}

func (x *expander) each(s *scope, forms []api.Datum) []part {
	all := make([]part, len(forms))
	for i, form := range forms {
		all[i] = x.of(s, form)
	}
	return all
}

// sequence is one part, or several, one after the other.
func (x *expander) sequence(parts ...part) part {
	if len(parts) == 1 {
		return parts[0]
	}
	return x.node(api.Core{Kind: api.CSeq}, parts...)
}

func (x *expander) forms(s *scope, forms []api.Datum) part {
	return x.sequence(x.each(s, forms)...)
}

// run is what a sequence of forms comes to.
func (x *expander) run(s *scope, forms []api.Datum) (step, api.Errno) {
	if len(forms) == 1 {
		return goOn(s, forms[0])
	}
	return done(x.forms(s, forms)())
}

// within is a body in a new scope of variables.
func (x *expander) within(s *scope, symbols []api.Datum, vars []int, forms []api.Datum) part {
	return func() (api.Core, api.Errno) {
		return x.finish(x.body(s.with(symbols, vars), forms))
	}
}

// named gives a procedure its name.
func named(text string, value part) part {
	return func() (api.Core, api.Errno) {
		c, e := value()
		if c.Kind == api.CLambda && c.Name == "" {
			c.Name = text
		}
		return c, e
	}
}

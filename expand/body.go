package expand

import "tandem/api"

// body is a body's forms, and what they define.
type body struct {
	row
	vars   []int
	values []part
}

// body is what the forms of a body come to.
func (x *expander) body(s *scope, forms []api.Datum) (step, api.Errno) {
	b := body{row: rowOf(s.inner(), forms...)}
	for {
		form, head, ok, e := x.next(&b.row)
		switch {
		case e != api.OK:
			return step{}, e
		case !ok:
			return step{}, api.ErrForm
		case head == special("define"):
			e = x.defineLocal(&b, form)
		case head == special("define-syntax"):
			e = b.defineMacro(form)
		default:
			return x.defining(&b, append([]api.Datum{form}, b.rest()...))
		}
		if e != api.OK {
			return step{}, e
		}
	}
}

// defining is what a body's expressions come to, with all that it defines.
func (x *expander) defining(b *body, forms []api.Datum) (step, api.Errno) {
	if len(b.vars) == 0 {
		return x.run(b.scope, forms)
	}
	return done(x.build(api.Core{Kind: api.CRec, Vars: b.vars}, append(b.values, x.forms(b.scope, forms))...))
}

func (x *expander) defineLocal(b *body, form api.Datum) api.Errno {
	symbol, value, ok := x.defined(b.scope, form)
	if !ok {
		return api.ErrForm
	}
	vars := x.variables(1)
	if !b.bind(nameOf(symbol), variable(vars[0])) {
		return api.ErrForm
	}
	b.vars = append(b.vars, vars...)
	b.values = append(b.values, value)
	return api.OK
}

// defineMacro binds a macro ahead of its rules being looked at, as names that are defined bind in all of a body.
func (b *body) defineMacro(form api.Datum) api.Errno {
	if !isSyntax(form) {
		return api.ErrForm
	}
	m := &macro{scope: b.scope}
	if !b.bind(nameOf(form.Items[1]), m) {
		return api.ErrForm
	}
	return m.learn(form.Items[2])
}

package expand

import "tandem/api"

// datum is what comes of a datum of the program.
func (x *expander) datum(d api.Datum) ([]api.Core, api.Errno) {
	if isDeeper(d, api.MaxDepth) {
		return nil, api.ErrDeep
	}
	r := rowOf(x.outermost, Strip(d))
	var all []api.Core
	for {
		form, head, ok, e := x.next(&r)
		if e != api.OK {
			return nil, e
		}
		if !ok {
			return all, api.OK
		}
		more, e := x.top(form, head)
		if e != api.OK {
			return nil, e
		}
		all = append(all, more...)
	}
}

// top is what comes of a form of the program that begins so.
func (x *expander) top(form api.Datum, head meaning) ([]api.Core, api.Errno) {
	switch head {
	case special("define"):
		return alone(x.defineGlobal(form))
	case special("define-syntax"):
		return nil, x.defineMacro(form)
	}
	return alone(x.expression(x.outermost, form))
}

func alone(c api.Core, e api.Errno) ([]api.Core, api.Errno) { return []api.Core{c}, e }

func (x *expander) defineGlobal(form api.Datum) (api.Core, api.Errno) {
	symbol, value, ok := x.defined(x.outermost, form)
	if !ok {
		return api.Core{}, api.ErrForm
	}
	// What may not be assigned may not be defined.
	c, e := x.global(symbol.Text).assign()
	if e != api.OK {
		return api.Core{}, e
	}
	c.Kind = api.CDefine
	return x.build(c, value)
}

// defineMacro looks at the rules of a macro first: it is one from there on.
func (x *expander) defineMacro(form api.Datum) api.Errno {
	if !isSyntax(form) {
		return api.ErrForm
	}
	m := &macro{scope: x.outermost}
	if e := m.learn(form.Items[2]); e != api.OK {
		return e
	}
	x.macros[form.Items[1].Text] = m
	return api.OK
}

package expand

import "tandem/api"

// row is forms that stand one after the other, definitions among them: the program's, or a body's.
type row struct {
	*scope
	left [][]api.Datum // what has not been looked at, that of the innermost begin last
}

func rowOf(s *scope, forms ...api.Datum) row {
	r := row{scope: s}
	r.push(forms)
	return r
}

func (r *row) push(forms []api.Datum) {
	if len(forms) > 0 {
		r.left = append(r.left, forms)
	}
}

func (r *row) pop() api.Datum {
	last := r.left[len(r.left)-1]
	r.left = r.left[:len(r.left)-1]
	r.push(last[1:])
	return last[0]
}

// rest are all forms that are left.
func (r *row) rest() []api.Datum {
	var all []api.Datum
	for i := range r.left {
		all = append(all, r.left[len(r.left)-1-i]...)
	}
	return all
}

// next goes through begins and uses of macros up to a form that is neither: that form, and what it begins with. False, if there is none.
func (x *expander) next(r *row) (api.Datum, meaning, bool, api.Errno) {
	for len(r.left) > 0 {
		form := r.pop()
		head := r.head(form)
		if m, ok := head.(*macro); ok {
			made, e := x.newForm(m, r.scope, form)
			if e != api.OK {
				return api.Datum{}, nil, false, e
			}
			r.push([]api.Datum{made})
			continue
		}
		if head != special("begin") {
			return form, head, true, api.OK
		}
		r.push(form.Items[1:])
	}
	return api.Datum{}, nil, false, api.OK
}

// defined is the symbol that (define ..) defines, and its value.
func (x *expander) defined(s *scope, form api.Datum) (symbol api.Datum, value part, ok bool) {
	if len(form.Items) < 3 {
		return api.Datum{}, nil, false
	}
	symbol = form.Items[1]
	value = x.of(s, form.Items[2])
	if symbol.Kind == api.List && len(symbol.Items) > 0 {
		formals := symbol
		formals.Items = symbol.Items[1:]
		symbol = symbol.Items[0]
		value = func() (api.Core, api.Errno) { return x.procedure(s, formals, form.Items[2:]) }
	} else if len(form.Items) > 3 {
		return api.Datum{}, nil, false
	}
	return symbol, named(symbol.Text, value), symbol.Kind == api.Symbol
}

// isSyntax tells whether (define-syntax ..) has its shape.
func isSyntax(form api.Datum) bool {
	return len(form.Items) == 3 && form.Items[1].Kind == api.Symbol
}

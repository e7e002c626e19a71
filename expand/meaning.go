package expand

import "tandem/api"

// meaning is what a symbol means. Two symbols mean the same, if their meanings are equal.
type meaning interface {
	// refer is the symbol as an expression.
	refer() (api.Core, api.Errno)
	// assign is what gives the symbol a value, still without that.
	assign() (api.Core, api.Errno)
	// use is what a list comes to that begins with the symbol.
	use(x *expander, s *scope, form api.Datum) (step, api.Errno)
}

// variable is one that a scope binds, told by its number.
type variable int

func (v variable) refer() (api.Core, api.Errno) {
	return api.Core{Kind: api.CLocal, N: int(v)}, api.OK
}

func (v variable) assign() (api.Core, api.Errno) {
	return api.Core{Kind: api.CSetLoc, N: int(v)}, api.OK
}

func (v variable) use(x *expander, s *scope, form api.Datum) (step, api.Errno) {
	return x.call(s, form)
}

// global is the program's variable of that name.
type global string

func (g global) refer() (api.Core, api.Errno) {
	return api.Core{Kind: api.CGlobal, Name: string(g)}, api.OK
}

func (g global) assign() (api.Core, api.Errno) {
	return api.Core{Kind: api.CSetGlo, Name: string(g)}, api.OK
}

func (g global) use(x *expander, s *scope, form api.Datum) (step, api.Errno) {
	return x.call(s, form)
}

// primitive is told by its number.
type primitive int

func (p primitive) refer() (api.Core, api.Errno) {
	return api.Core{Kind: api.CPrim, N: int(p)}, api.OK
}

func (p primitive) assign() (api.Core, api.Errno) { return api.Core{}, api.ErrName }

func (p primitive) use(x *expander, s *scope, form api.Datum) (step, api.Errno) {
	return x.call(s, form)
}

// special is a special word.
type special string

func (w special) refer() (api.Core, api.Errno) { return api.Core{}, api.ErrForm }

func (w special) assign() (api.Core, api.Errno) { return api.Core{}, api.ErrName }

func (w special) use(x *expander, s *scope, form api.Datum) (step, api.Errno) {
	return x.words[string(w)](s, form)
}

func (m *macro) refer() (api.Core, api.Errno) { return api.Core{}, api.ErrForm }

func (m *macro) assign() (api.Core, api.Errno) { return api.Core{}, api.ErrName }

func (m *macro) use(x *expander, s *scope, form api.Datum) (step, api.Errno) {
	next, e := x.newForm(m, s, form)
	if e != api.OK {
		return step{}, e
	}
	return goOn(s, next)
}

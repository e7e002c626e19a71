package expand

import "tandem/api"

// expander makes core forms of data. It is the ground of its scopes.
type expander struct {
	ground
	outermost         *scope
	uses, cores, vars int // how many: uses of macros, core forms, variables
}

func newExpander() *expander {
	x := &expander{}
	x.words = x.specialWords()
	x.prims = map[string]primitive{}
	for i, p := range api.Prims() {
		x.prims[p.Name] = primitive(i)
	}
	x.macros = map[string]*macro{}
	x.bound = map[name][]binding{}
	x.outermost = &scope{ground: &x.ground}
	x.last = x.outermost
	return x
}

// word makes what a special word asks for, of a list that begins with it.
type word func(s *scope, form api.Datum) (step, api.Errno)

func (x *expander) specialWords() map[string]word {
	return map[string]word{
		"quote":            x.quote,
		"quasiquote":       x.quasiquote,
		"unquote":          x.wrong,
		"unquote-splicing": x.wrong,
		"if":               x.conditional,
		"lambda":           x.lambda,
		"set!":             x.assignment,
		"define":           x.wrong,
		"begin":            x.begin,
		"let":              x.let,
		"let*":             x.letStar,
		"letrec":           x.letrec,
		"letrec*":          x.letrec,
		"cond":             x.cond,
		"case":             x.caseOf,
		"and":              x.and,
		"or":               x.or,
		"when":             x.when,
		"unless":           x.unless,
		"do":               x.do,
		"define-syntax":    x.wrong,
		"let-syntax":       x.letSyntax,
		"letrec-syntax":    x.letrecSyntax,
		"syntax-rules":     x.wrong,
		"else":             x.wrong,
		"=>":               x.wrong,
		"...":              x.wrong,
		"_":                x.wrong,
	}
}

// wrong is a special word that begins no expression.
func (x *expander) wrong(s *scope, form api.Datum) (step, api.Errno) {
	return step{}, api.ErrForm
}

// step is what comes of a form: a core form; or another form, in a scope.
type step struct {
	core  api.Core
	form  api.Datum
	scope *scope // nil, if it is a core form
}

func done(c api.Core, e api.Errno) (step, api.Errno) { return step{core: c}, e }

func goOn(s *scope, form api.Datum) (step, api.Errno) {
	return step{form: form, scope: s}, api.OK
}

func (x *expander) expression(s *scope, form api.Datum) (api.Core, api.Errno) {
	return x.finish(goOn(s, form))
}

// finish goes on up to a core form. It does so in a loop, as forms that come to others make no core forms on their way: of such there may be more, one in the other, than calls go deep.
func (x *expander) finish(at step, e api.Errno) (api.Core, api.Errno) {
	for e == api.OK && at.scope != nil {
		at, e = x.look(at.scope, at.form)
	}
	if e != api.OK {
		return api.Core{}, e
	}
	return at.core, api.OK
}

func (x *expander) look(s *scope, form api.Datum) (step, api.Errno) {
	switch form.Kind {
	case api.Symbol:
		return done(x.leaf(s.means(form).refer()))
	case api.Int, api.Bool, api.Char, api.String, api.Vector, api.Void:
		return done(x.constant(form)())
	case api.List:
		return x.compound(s, form)
	}
	return step{}, api.ErrForm
}

func (x *expander) compound(s *scope, form api.Datum) (step, api.Errno) {
	if !isRow(form, 1) {
		return step{}, api.ErrForm
	}
	if m := s.head(form); m != nil {
		return m.use(x, s, form)
	}
	return x.call(s, form)
}

func (x *expander) call(s *scope, form api.Datum) (step, api.Errno) {
	return done(x.build(api.Core{Kind: api.CCall}, x.each(s, form.Items)...))
}

// leaf counts a core form without parts.
func (x *expander) leaf(c api.Core, e api.Errno) (api.Core, api.Errno) {
	if e != api.OK {
		return api.Core{}, e
	}
	return x.build(c)
}

// build is a core form with its parts. It is counted ahead of them, so that calls go no deeper than core forms may be many.
func (x *expander) build(c api.Core, parts ...part) (api.Core, api.Errno) {
	if x.cores == api.MaxCore {
		return api.Core{}, api.ErrSteps
	}
	x.cores++
	for _, p := range parts {
		sub, e := p()
		if e != api.OK {
			return api.Core{}, e
		}
		c.Subs = append(c.Subs, sub)
	}
	return c, api.OK
}

// variables are so many new ones.
func (x *expander) variables(n int) []int {
	var all []int
	for range n {
		all = append(all, x.vars)
		x.vars++
	}
	return all
}

package expand_test

import (
	"slices"

	"tandem/api"
	"tandem/num"
)

// A second expander, made another way: scopes are asked one by one, forms are gone through by calls alone, patterns are matched here.

type key struct {
	text string
	mark int
}

func keyOf(d api.Datum) key { return key{d.Text, d.N} }

type env struct {
	up    *env
	names map[key]any
}

func (e *env) inner() *env { return &env{e, map[key]any{}} }

// What symbols mean beside a variable (an int) and a macro.
type (
	keyword   string
	primitive int
	global    string
)

type modelMacro struct {
	env      *env
	literals []api.Datum
	rules    []api.Datum
	dots     map[key]int // what its ellipses are
	blanks   map[key]int
}

type origin struct {
	key
	env *env
}

type model struct {
	ground            *env
	macros            map[string]*modelMacro
	origins           []origin
	uses, cores, vars int
}

const keywords = " quote quasiquote unquote unquote-splicing if lambda set! define begin let let* letrec letrec* cond case and or when unless do define-syntax let-syntax letrec-syntax syntax-rules else => ... _ "

// modelProgram is what Program should tell.
func modelProgram(data []api.Datum) (forms []api.Core, at int, e api.Errno) {
	defer func() {
		if r := recover(); r != nil {
			forms, e = nil, r.(api.Errno)
		}
	}()
	m := model{ground: &env{}, macros: map[string]*modelMacro{}}
	for i, d := range data {
		at = i
		if depthOf(d) > api.MaxDepth {
			panic(api.ErrDeep)
		}
		forms = append(forms, m.top(stripped(d))...)
	}
	return forms, 0, api.OK
}

func want(ok bool) {
	if !ok {
		panic(api.ErrForm)
	}
}

func partsOf(d api.Datum) []api.Datum {
	switch d.Kind {
	case api.List:
		return append(slices.Clone(d.Items), d.Rest[:min(1, len(d.Rest))]...)
	case api.Vector, api.Cond:
		return d.Items
	}
	return nil
}

func depthOf(d api.Datum) int {
	deep := 0
	for _, p := range partsOf(d) {
		deep = max(deep, depthOf(p))
	}
	return deep + 1
}

func stripped(d api.Datum) api.Datum {
	if d.Kind == api.Symbol {
		d.N = 0
	}
	d.Items, d.Rest = slices.Clone(d.Items), slices.Clone(d.Rest)
	for i := range d.Items {
		d.Items[i] = stripped(d.Items[i])
	}
	for i := range d.Rest {
		d.Rest[i] = stripped(d.Rest[i])
	}
	return d
}

func (m *model) means(d api.Datum, e *env) any {
	k := keyOf(d)
	for at := e; at != nil; at = at.up {
		if v, ok := at.names[k]; ok {
			return v
		}
	}
	if k.mark != 0 {
		o := m.origins[k.mark-1]
		return m.means(marked(o.text, o.mark), o.env)
	}
	return m.globally(k.text)
}

func (m *model) globally(s string) any {
	if v, ok := m.macros[s]; ok {
		return v
	}
	if isWord(s) {
		return keyword(s)
	}
	if n := slices.IndexFunc(api.Prims(), func(p api.Prim) bool { return p.Name == s }); n >= 0 {
		return primitive(n)
	}
	return global(s)
}

func isWord(s string) bool {
	for _, w := range splitWords(keywords) {
		if w == s {
			return true
		}
	}
	return false
}

func splitWords(s string) []string {
	var out []string
	from := 1
	for i := 1; i < len(s); i++ {
		if s[i] == ' ' {
			out = append(out, s[from:i])
			from = i + 1
		}
	}
	return out
}

func (m *model) is(d api.Datum, e *env, w string) bool {
	return d.Kind == api.Symbol && m.means(d, e) == any(keyword(w))
}

func proper(d api.Datum) bool { return d.Kind == api.List && len(d.Rest) == 0 }

func (m *model) head(d api.Datum, e *env) any {
	if proper(d) && len(d.Items) > 0 && d.Items[0].Kind == api.Symbol {
		return m.means(d.Items[0], e)
	}
	return nil
}

// node counts a core form, then makes its parts.
func (m *model) node(c api.Core, subs ...func() api.Core) api.Core {
	if m.cores++; m.cores > api.MaxCore {
		panic(api.ErrSteps)
	}
	for _, s := range subs {
		c.Subs = append(c.Subs, s())
	}
	return c
}

func (m *model) fresh(n int) []int {
	var out []int
	for range n {
		out = append(out, m.vars)
		m.vars++
	}
	return out
}

func (m *model) constant(d api.Datum) api.Core {
	return m.node(api.Core{Kind: api.CConst, D: []api.Datum{stripped(d)}})
}

func (m *model) top(d api.Datum) []api.Core {
	switch h := m.head(d, m.ground); h {
	case keyword("begin"):
		var out []api.Core
		for _, f := range d.Items[1:] {
			out = append(out, m.top(f)...)
		}
		return out
	case keyword("define"):
		name, value := m.definition(d, m.ground)
		if _, ok := m.globally(name.Text).(global); !ok {
			panic(api.ErrName)
		}
		return []api.Core{m.node(api.Core{Kind: api.CDefine, Name: name.Text}, value)}
	case keyword("define-syntax"):
		want(len(d.Items) == 3 && d.Items[1].Kind == api.Symbol)
		mac := &modelMacro{env: m.ground}
		m.learn(mac, d.Items[2])
		m.macros[d.Items[1].Text] = mac
		return nil
	default:
		if mac, ok := h.(*modelMacro); ok {
			return m.top(m.use(mac, d, m.ground))
		}
	}
	return []api.Core{m.expr(d, m.ground)}
}

func (m *model) definition(d api.Datum, e *env) (api.Datum, func() api.Core) {
	want(len(d.Items) >= 3)
	target := d.Items[1]
	value := func() api.Core { return m.expr(d.Items[2], e) }
	if target.Kind == api.List {
		want(len(target.Items) > 0)
		formals := target
		formals.Items = target.Items[1:]
		target = target.Items[0]
		value = func() api.Core { return m.lambda(formals, d.Items[2:], e, "") }
	} else {
		want(len(d.Items) == 3)
	}
	want(target.Kind == api.Symbol)
	return target, func() api.Core {
		c := value()
		if c.Kind == api.CLambda && c.Name == "" {
			c.Name = target.Text
		}
		return c
	}
}

func (m *model) bind(e *env, symbols []api.Datum, vars []int) *env {
	in := e.inner()
	for i, s := range symbols {
		in.names[keyOf(s)] = vars[i]
	}
	return in
}

func wantSymbols(l []api.Datum, twice bool) {
	known := map[key]bool{}
	for _, s := range l {
		want(s.Kind == api.Symbol && (twice || !known[keyOf(s)]))
		known[keyOf(s)] = true
	}
}

func (m *model) lambda(formals api.Datum, forms []api.Datum, e *env, name string) api.Core {
	var symbols []api.Datum
	rest := formals.Kind == api.Symbol
	if rest {
		symbols = []api.Datum{formals}
	} else {
		want(formals.Kind == api.List)
		symbols = partsOf(formals)
		rest = len(formals.Rest) > 0
	}
	wantSymbols(symbols, false)
	vars := m.fresh(len(symbols))
	return m.node(api.Core{Kind: api.CLambda, Name: name, Vars: vars, Rest: rest}, func() api.Core {
		return m.body(forms, m.bind(e, symbols, vars))
	})
}

func (m *model) body(forms []api.Datum, e *env) api.Core {
	want(len(forms) > 0)
	in := e.inner()
	var vars []int
	var values []func() api.Core
	for {
		want(len(forms) > 0)
		d := forms[0]
		h := m.head(d, in)
		mac, isMacro := h.(*modelMacro)
		switch {
		case isMacro:
			forms = append([]api.Datum{m.use(mac, d, in)}, forms[1:]...)
		case h == any(keyword("begin")):
			forms = append(slices.Clone(d.Items[1:]), forms[1:]...)
		case h == any(keyword("define")):
			name, value := m.definition(d, in)
			m.once(in, name, m.vars)
			vars = append(vars, m.fresh(1)...)
			values = append(values, value)
			forms = forms[1:]
		case h == any(keyword("define-syntax")):
			want(len(d.Items) == 3 && d.Items[1].Kind == api.Symbol)
			mac := &modelMacro{env: in}
			m.once(in, d.Items[1], mac)
			m.learn(mac, d.Items[2])
			forms = forms[1:]
		case len(vars) == 0:
			return m.seq(forms, in)
		default:
			values = append(values, func() api.Core { return m.seq(forms, in) })
			return m.node(api.Core{Kind: api.CRec, Vars: vars}, values...)
		}
	}
}

func (m *model) once(e *env, symbol api.Datum, v any) {
	_, twice := e.names[keyOf(symbol)]
	want(!twice)
	e.names[keyOf(symbol)] = v
}

func (m *model) seq(forms []api.Datum, e *env) api.Core {
	if len(forms) == 1 {
		return m.expr(forms[0], e)
	}
	return m.node(api.Core{Kind: api.CSeq}, m.each(forms, e)...)
}

func (m *model) each(forms []api.Datum, e *env) []func() api.Core {
	var out []func() api.Core
	for _, f := range forms {
		out = append(out, func() api.Core { return m.expr(f, e) })
	}
	return out
}

func (m *model) expr(d api.Datum, e *env) api.Core {
	switch d.Kind {
	case api.Symbol:
		switch v := m.means(d, e).(type) {
		case int:
			return m.node(api.Core{Kind: api.CLocal, N: v})
		case primitive:
			return m.node(api.Core{Kind: api.CPrim, N: int(v)})
		case global:
			return m.node(api.Core{Kind: api.CGlobal, Name: string(v)})
		}
		panic(api.ErrForm)
	case api.Int, api.Bool, api.Char, api.String, api.Vector, api.Void:
		return m.constant(d)
	}
	want(proper(d) && len(d.Items) > 0)
	switch h := m.head(d, e).(type) {
	case *modelMacro:
		return m.expr(m.use(h, d, e), e)
	case keyword:
		return m.special(string(h), d.Items[1:], e)
	}
	return m.node(api.Core{Kind: api.CCall}, m.each(d.Items, e)...)
}

func (m *model) special(w string, l []api.Datum, e *env) api.Core {
	void := func() api.Core { return m.constant(api.Datum{Kind: api.Void}) }
	switch w {
	case "quote":
		want(len(l) == 1)
		return m.constant(l[0])
	case "quasiquote":
		want(len(l) == 1)
		return m.quasi(l[0], 0, e)
	case "if":
		want(len(l) == 2 || len(l) == 3)
		return m.node(api.Core{Kind: api.CIf}, append(m.each(l, e), void)[:3]...)
	case "lambda":
		want(len(l) >= 2)
		return m.lambda(l[0], l[1:], e, "")
	case "set!":
		want(len(l) == 2 && l[0].Kind == api.Symbol)
		switch v := m.means(l[0], e).(type) {
		case int:
			return m.node(api.Core{Kind: api.CSetLoc, N: v}, m.each(l[1:], e)...)
		case global:
			return m.node(api.Core{Kind: api.CSetGlo, Name: string(v)}, m.each(l[1:], e)...)
		}
		panic(api.ErrName)
	case "begin":
		want(len(l) > 0)
		return m.seq(l, e)
	case "and":
		return m.and(l, e)
	case "or":
		return m.or(l, e, nil)
	case "when", "unless":
		want(len(l) >= 2)
		subs := []func() api.Core{m.each(l[:1], e)[0], func() api.Core { return m.seq(l[1:], e) }, void}
		if w == "unless" {
			subs[1], subs[2] = subs[2], subs[1]
		}
		return m.node(api.Core{Kind: api.CIf}, subs...)
	case "cond", "case":
		return m.clauses(w, l, e)
	case "do":
		return m.do(l, e)
	case "let", "let*", "letrec", "letrec*", "let-syntax", "letrec-syntax":
		return m.lets(w, l, e)
	}
	panic(api.ErrForm)
}

func (m *model) and(l []api.Datum, e *env) api.Core {
	if len(l) < 2 {
		return m.expr(append(slices.Clone(l), api.Datum{Kind: api.Bool, N: 1})[0], e)
	}
	return m.node(api.Core{Kind: api.CIf}, m.each(l[:1], e)[0], func() api.Core { return m.and(l[1:], e) },
		func() api.Core { return m.constant(api.Datum{Kind: api.Bool}) })
}

// or is an or of some forms, and of another part behind them.
func (m *model) or(l []api.Datum, e *env, last func() api.Core) api.Core {
	switch {
	case len(l) == 0 && last == nil:
		return m.constant(api.Datum{Kind: api.Bool})
	case len(l) == 0:
		return last()
	case len(l) == 1 && last == nil:
		return m.expr(l[0], e)
	}
	v := m.fresh(1)
	local := func() api.Core { return m.node(api.Core{Kind: api.CLocal, N: v[0]}) }
	return m.node(api.Core{Kind: api.CLet, Vars: v}, m.each(l[:1], e)[0], func() api.Core {
		return m.node(api.Core{Kind: api.CIf}, local, local, func() api.Core { return m.or(l[1:], e, last) })
	})
}

func (m *model) clauses(w string, l []api.Datum, e *env) api.Core {
	from := 0
	if w == "case" {
		from = 1
	}
	want(len(l) > from)
	for i, c := range l[from:] {
		want(proper(c) && len(c.Items) > 0)
		switch {
		case m.is(c.Items[0], e, "else"):
			want(i == len(l)-from-1 && len(c.Items) > 1)
		case w == "case":
			want(proper(c.Items[0]) && len(c.Items) > 1)
		case len(c.Items) > 1 && m.is(c.Items[1], e, "=>"):
			want(len(c.Items) == 3)
		}
	}
	if w == "cond" {
		return m.cond(l, e)
	}
	v := m.fresh(1)
	return m.node(api.Core{Kind: api.CLet, Vars: v}, m.each(l[:1], e)[0], func() api.Core { return m.cases(l[1:], v[0], e) })
}

func (m *model) cond(l []api.Datum, e *env) api.Core {
	if len(l) == 0 {
		return m.constant(api.Datum{Kind: api.Void})
	}
	c := l[0].Items
	rest := func() api.Core { return m.cond(l[1:], e) }
	switch {
	case m.is(c[0], e, "else"):
		return m.seq(c[1:], e)
	case len(c) == 1:
		return m.or(c, e, rest)
	case m.is(c[1], e, "=>"):
		v := m.fresh(1)
		local := func() api.Core { return m.node(api.Core{Kind: api.CLocal, N: v[0]}) }
		return m.node(api.Core{Kind: api.CLet, Vars: v}, m.each(c[:1], e)[0], func() api.Core {
			return m.node(api.Core{Kind: api.CIf}, local, func() api.Core {
				return m.node(api.Core{Kind: api.CCall}, m.each(c[2:], e)[0], local)
			}, rest)
		})
	}
	return m.node(api.Core{Kind: api.CIf}, m.each(c[:1], e)[0], func() api.Core { return m.seq(c[1:], e) }, rest)
}

func (m *model) prim(name string, subs ...func() api.Core) api.Core {
	n := m.primitive(name)
	return m.node(api.Core{Kind: api.CCall}, append([]func() api.Core{func() api.Core { return m.node(api.Core{Kind: api.CPrim, N: n}) }}, subs...)...)
}

func (m *model) primitive(name string) int {
	return slices.IndexFunc(api.Prims(), func(p api.Prim) bool { return p.Name == name })
}

func (m *model) cases(l []api.Datum, v int, e *env) api.Core {
	if len(l) == 0 {
		return m.constant(api.Datum{Kind: api.Void})
	}
	c := l[0].Items
	if m.is(c[0], e, "else") {
		return m.seq(c[1:], e)
	}
	local := func() api.Core { return m.node(api.Core{Kind: api.CLocal, N: v}) }
	test := func() api.Core {
		switch len(c[0].Items) {
		case 0:
			return m.constant(api.Datum{Kind: api.Bool})
		case 1:
			return m.prim("eqv?", local, func() api.Core { return m.constant(c[0].Items[0]) })
		}
		return m.prim("memv", local, func() api.Core { return m.constant(c[0]) })
	}
	return m.node(api.Core{Kind: api.CIf}, test, func() api.Core { return m.seq(c[1:], e) }, func() api.Core { return m.cases(l[1:], v, e) })
}

func (m *model) do(l []api.Datum, e *env) api.Core {
	want(len(l) >= 2 && proper(l[0]) && proper(l[1]) && len(l[1].Items) > 0)
	var symbols, inits, steps []api.Datum
	for _, s := range l[0].Items {
		want(proper(s) && (len(s.Items) == 2 || len(s.Items) == 3))
		symbols = append(symbols, s.Items[0])
		inits = append(inits, s.Items[1])
		steps = append(steps, append(slices.Clone(s.Items), s.Items[0])[2])
	}
	wantSymbols(symbols, false)
	vars := m.fresh(len(symbols))
	return m.node(api.Core{Kind: api.CLoop, Vars: vars}, append(m.each(inits, e), func() api.Core {
		in := m.bind(e, symbols, vars)
		again := func() api.Core { return m.node(api.Core{Kind: api.CAgain}, m.each(steps, in)...) }
		return m.node(api.Core{Kind: api.CIf}, m.each(l[1].Items, in)[0], func() api.Core {
			if len(l[1].Items) == 1 {
				return m.constant(api.Datum{Kind: api.Void})
			}
			return m.seq(l[1].Items[1:], in)
		}, func() api.Core {
			if len(l) == 2 {
				return again()
			}
			return m.node(api.Core{Kind: api.CSeq}, append(m.each(l[2:], in), again)...)
		})
	})...)
}

func (m *model) lets(w string, l []api.Datum, e *env) api.Core {
	var self []api.Datum
	if w == "let" && len(l) > 0 && l[0].Kind == api.Symbol {
		self, l = l[:1], l[1:]
	}
	want(len(l) >= 2 && proper(l[0]))
	var symbols, values []api.Datum
	for _, p := range l[0].Items {
		want(proper(p) && len(p.Items) == 2)
		symbols, values = append(symbols, p.Items[0]), append(values, p.Items[1])
	}
	wantSymbols(symbols, w == "let*")
	switch {
	case self != nil:
		return m.node(api.Core{Kind: api.CCall}, append([]func() api.Core{func() api.Core {
			v := m.fresh(1)
			return m.node(api.Core{Kind: api.CRec, Vars: v}, func() api.Core {
				return m.lambda(list(symbols...), l[1:], m.bind(e, self, v), self[0].Text)
			}, func() api.Core { return m.node(api.Core{Kind: api.CLocal, N: v[0]}) })
		}}, m.each(values, e)...)...)
	case w == "let-syntax" || w == "letrec-syntax":
		return m.letSyntax(w, symbols, values, l[1:], e)
	case len(symbols) == 0:
		return m.body(l[1:], e)
	case w == "let*":
		v := m.fresh(1)
		return m.node(api.Core{Kind: api.CLet, Vars: v}, m.each(values, e)[0], func() api.Core {
			rest := append([]api.Datum{list(l[0].Items[1:]...)}, l[1:]...)
			return m.lets(w, rest, m.bind(e, symbols[:1], v))
		})
	}
	vars := m.fresh(len(symbols))
	in := m.bind(e, symbols, vars)
	c, around := api.Core{Kind: api.CLet, Vars: vars}, e
	if w != "let" {
		c.Kind, around = api.CRec, in
	}
	return m.node(c, append(m.each(values, around), func() api.Core { return m.body(l[1:], in) })...)
}

func (m *model) letSyntax(w string, symbols, values, forms []api.Datum, e *env) api.Core {
	in := e.inner()
	where := e
	if w == "letrec-syntax" {
		where = in
	}
	macros := make([]*modelMacro, len(symbols))
	for i := range symbols {
		macros[i] = &modelMacro{env: where}
		in.names[keyOf(symbols[i])] = macros[i]
	}
	for i := range symbols {
		m.learn(macros[i], values[i])
	}
	return m.body(forms, in)
}

// same tells whether two data are alike, marks too.
func same(a, b api.Datum) bool {
	if a.Kind != b.Kind {
		return false
	}
	switch a.Kind {
	case api.Int:
		return num.Cmp(a.Num, b.Num) == 0
	case api.Bool, api.Char, api.Proc:
		return a.N == b.N
	case api.String:
		return a.Text == b.Text
	case api.Symbol:
		return keyOf(a) == keyOf(b)
	case api.Cond:
		return a.Text == b.Text && slices.EqualFunc(a.Items, b.Items, same)
	case api.List:
		return slices.EqualFunc(a.Items, b.Items, same) && slices.EqualFunc(a.Rest[:min(1, len(a.Rest))], b.Rest[:min(1, len(b.Rest))], same)
	case api.Vector:
		return slices.EqualFunc(a.Items, b.Items, same)
	}
	return true
}

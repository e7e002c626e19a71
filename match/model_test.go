package match_test

import (
	"slices"

	"tandem/api"
	"tandem/num"
)

// The model tells patterns and templates in a second way, by the chapter's words: errors are thrown, binds are put together part by part.

type thrown api.Errno

type sign struct {
	text string
	mark int
}

func is(d api.Datum, text string, mark int) bool {
	return d.Kind == api.Symbol && d.Text == text && d.N == mark
}

func partsOf(d api.Datum) []api.Datum {
	switch d.Kind {
	case api.List:
		return append(slices.Clone(d.Items), d.Rest[:min(1, len(d.Rest))]...)
	case api.Vector, api.Cond:
		return d.Items
	}
	return nil
}

func depthOf(d api.Datum) int {
	most := 0
	for _, p := range partsOf(d) {
		most = max(most, depthOf(p))
	}
	return most + 1
}

func sizeOf(d api.Datum) int {
	n := 1
	for _, p := range partsOf(d) {
		n += sizeOf(p)
	}
	return n
}

func alike(a, b api.Datum) bool {
	text := a.Text == b.Text || a.Kind != api.String && a.Kind != api.Symbol && a.Kind != api.Cond
	n := a.N == b.N || a.Kind != api.Bool && a.Kind != api.Char && a.Kind != api.Proc && a.Kind != api.Symbol
	number := a.Kind != api.Int || num.Text(a.Num) == num.Text(b.Num)
	rests := a.Kind != api.List || (len(a.Rest) > 0) == (len(b.Rest) > 0)
	return a.Kind == b.Kind && text && n && number && rests && slices.EqualFunc(partsOf(a), partsOf(b), alike)
}

type modelPattern struct{ literals []api.Datum }

func (m modelPattern) isLiteral(d api.Datum) bool {
	return slices.ContainsFunc(m.literals, func(l api.Datum) bool { return is(d, l.Text, l.N) })
}

func (m modelPattern) isEllipsis(d api.Datum) bool { return is(d, "...", 0) && !m.isLiteral(d) }

func (m modelPattern) isVariable(d api.Datum) bool {
	return d.Kind == api.Symbol && !m.isLiteral(d) && !is(d, "_", 0) && !is(d, "...", 0)
}

// vars are the variables, or an error is thrown.
func (m modelPattern) vars(d api.Datum, depth int) []api.Bind {
	if m.isEllipsis(d) {
		panic(thrown(api.ErrMatch))
	}
	if m.isVariable(d) {
		return []api.Bind{{Name: d.Text, Mark: d.N, Depth: depth}}
	}
	if d.Kind != api.List && d.Kind != api.Vector {
		return nil
	}
	var all []api.Bind
	ellipses := 0
	for i, p := range d.Items {
		switch {
		case m.isEllipsis(p) && i > 0 && !m.isEllipsis(d.Items[i-1]):
			ellipses++
		case i+1 < len(d.Items) && m.isEllipsis(d.Items[i+1]):
			all = append(all, m.vars(p, depth+1)...)
		default:
			all = append(all, m.vars(p, depth)...)
		}
	}
	if ellipses > 1 {
		panic(thrown(api.ErrMatch))
	}
	if d.Kind == api.List && len(d.Rest) > 0 {
		all = append(all, m.vars(d.Rest[0], depth)...)
	}
	return all
}

// modelVars is Vars.
func modelVars(pattern api.Datum, literals ...api.Datum) (vars []api.Bind, e api.Errno) {
	defer func() {
		if x := recover(); x != nil {
			vars, e = nil, api.Errno(x.(thrown))
		}
	}()
	m := modelPattern{literals}
	wrong := depthOf(pattern) > api.MaxDepth || slices.ContainsFunc(literals, func(l api.Datum) bool { return l.Kind != api.Symbol })
	vars = m.vars(pattern, 0)
	for i, v := range vars {
		for _, w := range vars[:i] {
			wrong = wrong || v.Name == w.Name && v.Mark == w.Mark
		}
	}
	if wrong {
		panic(thrown(api.ErrMatch))
	}
	return vars, api.OK
}

// modelMatch is Match.
func modelMatch(pattern, form api.Datum, literals ...api.Datum) ([]api.Bind, bool) {
	if _, e := modelVars(pattern, literals...); e != api.OK {
		return nil, false
	}
	return modelPattern{literals}.match(pattern, form)
}

func (m modelPattern) match(p, f api.Datum) ([]api.Bind, bool) {
	switch {
	case m.isVariable(p):
		return []api.Bind{{Name: p.Text, Mark: p.N, D: f}}, true
	case is(p, "_", 0) && !m.isLiteral(p):
		return nil, true
	case p.Kind != api.List && p.Kind != api.Vector:
		return nil, alike(p, f)
	case p.Kind != f.Kind:
		return nil, false
	}
	if p.Kind == api.Vector {
		return m.matchRow(p.Items, nil, f.Items, nil)
	}
	return m.matchRow(p.Items, p.Rest, f.Items, f.Rest)
}

// matchRow goes on by the first item of the pattern.
func (m modelPattern) matchRow(p, pRest, f, fRest []api.Datum) ([]api.Bind, bool) {
	switch {
	case len(p) > 1 && m.isEllipsis(p[1]):
		n := len(f) - (len(p) - 2)
		if n < 0 {
			return nil, false
		}
		first, ok := m.matchMany(p[0], f[:n])
		more, ok2 := m.matchRow(p[2:], pRest, f[n:], fRest)
		return append(first, more...), ok && ok2
	case len(p) > 0 && len(f) == 0:
		return nil, false
	case len(p) > 0:
		first, ok := m.match(p[0], f[0])
		more, ok2 := m.matchRow(p[1:], pRest, f[1:], fRest)
		return append(first, more...), ok && ok2
	case len(pRest) == 0:
		return nil, len(f) == 0 && len(fRest) == 0
	case len(f) == 0 && len(fRest) > 0:
		return m.match(pRest[0], fRest[0])
	}
	return m.match(pRest[0], api.Datum{Kind: api.List, Items: f, Rest: fRest[:min(1, len(fRest))]})
}

func (m modelPattern) matchMany(p api.Datum, forms []api.Datum) ([]api.Bind, bool) {
	all := m.vars(p, 1)
	for _, f := range forms {
		once, ok := m.match(p, f)
		if !ok {
			return nil, false
		}
		for i, b := range once {
			all[i].Subs = append(all[i].Subs, b)
		}
	}
	return all, true
}

// modelTemplate counts the parts that come.
type modelTemplate struct{ parts int }

func (m *modelTemplate) count(n int) {
	m.parts += n
	if m.parts > api.MaxSteps {
		panic(thrown(api.ErrSteps))
	}
}

// modelFill is Fill.
func modelFill(template api.Datum, binds []api.Bind) (d api.Datum, e api.Errno) {
	defer func() {
		if x := recover(); x != nil {
			d, e = api.Datum{}, api.Errno(x.(thrown))
		}
	}()
	if depthOf(template) > api.MaxDepth {
		panic(thrown(api.ErrDeep))
	}
	known := map[sign]api.Bind{}
	for _, b := range binds {
		if _, ok := known[sign{b.Name, b.Mark}]; !ok {
			known[sign{b.Name, b.Mark}] = b
		}
	}
	return (&modelTemplate{}).fill(template, known, true), api.OK
}

func isEscape(t api.Datum, dots bool) bool {
	return dots && t.Kind == api.List && len(t.Items) == 2 && len(t.Rest) == 0 && is(t.Items[0], "...", 0)
}

func (m *modelTemplate) fill(t api.Datum, known map[sign]api.Bind, dots bool) api.Datum {
	b, ok := known[sign{t.Text, t.N}]
	switch {
	case dots && is(t, "...", 0):
		panic(thrown(api.ErrMatch))
	case t.Kind == api.Symbol && ok && b.Depth > 0:
		panic(thrown(api.ErrMatch))
	case t.Kind == api.Symbol && ok:
		m.count(sizeOf(b.D))
		return b.D
	case isEscape(t, dots):
		return m.fill(t.Items[1], known, false)
	case t.Kind != api.List && t.Kind != api.Vector:
		m.count(sizeOf(t))
		return t
	}
	return m.fillRow(t, known, dots)
}

func (m *modelTemplate) fillRow(t api.Datum, known map[sign]api.Bind, dots bool) api.Datum {
	out := api.Datum{Kind: t.Kind}
	m.count(1)
	for i := 0; i < len(t.Items); i++ {
		from, n := i, 0
		for dots && i+1 < len(t.Items) && is(t.Items[i+1], "...", 0) {
			i, n = i+1, n+1
		}
		out.Items = append(out.Items, m.fillMany(t.Items[from], known, dots, n)...)
	}
	if t.Kind == api.Vector || len(t.Rest) == 0 {
		return out
	}
	if len(out.Items) == 0 {
		m.parts--
		return m.fill(t.Rest[0], known, dots)
	}
	rest := m.fill(t.Rest[0], known, dots)
	if rest.Kind != api.List {
		out.Rest = []api.Datum{rest}
		return out
	}
	out.Items, out.Rest = append(out.Items, rest.Items...), rest.Rest[:min(1, len(rest.Rest))]
	return out
}

func (m *modelTemplate) fillMany(t api.Datum, known map[sign]api.Bind, dots bool, ellipses int) []api.Datum {
	if ellipses == 0 {
		return []api.Datum{m.fill(t, known, dots)}
	}
	in := map[sign]api.Bind{}
	standIn(t, known, dots, in)
	turns := -1
	for _, b := range in {
		if turns >= 0 && turns != len(b.Subs) {
			panic(thrown(api.ErrMatch))
		}
		turns = len(b.Subs)
	}
	if turns < 0 {
		panic(thrown(api.ErrMatch))
	}
	var all []api.Datum
	for i := range turns {
		once := map[sign]api.Bind{}
		for s, b := range known {
			once[s] = b
		}
		for s, b := range in {
			once[s] = b.Subs[i]
		}
		all = append(all, m.fillMany(t, once, dots, ellipses-1)...)
	}
	return all
}

// standIn gathers the deep binds that stand in a part.
func standIn(t api.Datum, known map[sign]api.Bind, dots bool, in map[sign]api.Bind) {
	if b, ok := known[sign{t.Text, t.N}]; ok && t.Kind == api.Symbol && b.Depth > 0 && !(dots && is(t, "...", 0)) {
		in[sign{t.Text, t.N}] = b
	}
	if isEscape(t, dots) {
		standIn(t.Items[1], known, false, in)
		return
	}
	if t.Kind == api.List || t.Kind == api.Vector {
		for _, p := range partsOf(t) {
			standIn(p, known, dots, in)
		}
	}
}

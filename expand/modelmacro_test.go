package expand_test

import (
	"slices"

	"tandem/api"
)

func (m *model) learn(mac *modelMacro, d api.Datum) {
	want(m.head(d, mac.env) == any(keyword("syntax-rules")) && len(d.Items) >= 2 && proper(d.Items[1]))
	wantSymbols(d.Items[1].Items, true)
	mac.literals, mac.rules = d.Items[1].Items, d.Items[2:]
	for _, r := range mac.rules {
		want(proper(r) && len(r.Items) == 2 && r.Items[0].Kind == api.List && len(r.Items[0].Items) > 0)
	}
	mac.dots, mac.blanks = map[key]int{}, map[key]int{}
	m.note(mac, d)
	for _, r := range mac.rules {
		mac.checkPattern(tail(r.Items[0]), map[key]bool{})
	}
}

// note keeps which symbols are ellipses or blanks where the macro is defined.
func (m *model) note(mac *modelMacro, d api.Datum) {
	if m.is(d, mac.env, "...") {
		mac.dots[keyOf(d)] = 1
	}
	if m.is(d, mac.env, "_") {
		mac.blanks[keyOf(d)] = 1
	}
	if d.Kind != api.Cond {
		for _, p := range partsOf(d) {
			m.note(mac, p)
		}
	}
}

func tail(d api.Datum) api.Datum {
	d.Items = d.Items[1:]
	return d
}

func (mac *modelMacro) isLiteral(d api.Datum) bool {
	return slices.ContainsFunc(mac.literals, func(l api.Datum) bool { return d.Kind == api.Symbol && keyOf(l) == keyOf(d) })
}

func (mac *modelMacro) isDots(d api.Datum) bool {
	return d.Kind == api.Symbol && mac.dots[keyOf(d)] > 0
}

func (mac *modelMacro) patternDots(d api.Datum) bool { return mac.isDots(d) && !mac.isLiteral(d) }

func (mac *modelMacro) isVariable(d api.Datum) bool {
	return d.Kind == api.Symbol && !mac.isLiteral(d) && !mac.isDots(d) && mac.blanks[keyOf(d)] == 0
}

func (mac *modelMacro) checkPattern(p api.Datum, known map[key]bool) {
	wantMatch := func(ok bool) {
		if !ok {
			panic(api.ErrMatch)
		}
	}
	if mac.isVariable(p) {
		wantMatch(!known[keyOf(p)])
		known[keyOf(p)] = true
	}
	if p.Kind != api.List && p.Kind != api.Vector {
		return
	}
	dots := 0
	for i, d := range p.Items {
		if mac.patternDots(d) {
			dots++
			wantMatch(i > 0 && dots == 1)
			continue
		}
		mac.checkPattern(d, known)
	}
	if p.Kind == api.List && len(p.Rest) > 0 {
		wantMatch(!mac.patternDots(p.Rest[0]))
		mac.checkPattern(p.Rest[0], known)
	}
}

// tree is what a variable stands for.
type tree struct {
	d     api.Datum
	deep  int
	turns []*tree
}

// matcher matches a use, in its scope.
type matcher struct {
	*model
	mac *modelMacro
	env *env
}

func (m *matcher) match(p, f api.Datum, out map[key]*tree) bool {
	switch {
	case m.mac.isLiteral(p):
		return f.Kind == api.Symbol && m.means(f, m.env) == m.means(p, m.mac.env)
	case m.mac.isVariable(p):
		out[keyOf(p)] = &tree{d: f}
		return true
	case p.Kind == api.Symbol:
		return true
	case p.Kind != api.List && p.Kind != api.Vector:
		return same(p, f)
	case p.Kind != f.Kind:
		return false
	}
	at := slices.IndexFunc(p.Items, m.mac.patternDots)
	left := f.Items
	if at < 0 {
		if len(left) < len(p.Items) {
			return false
		}
		for i := range p.Items {
			if !m.match(p.Items[i], left[i], out) {
				return false
			}
		}
		return m.matchRest(p, left[len(p.Items):], f, out)
	}
	over := len(left) - (len(p.Items) - 2)
	if over < 0 {
		return false
	}
	for i := range at - 1 {
		if !m.match(p.Items[i], left[i], out) {
			return false
		}
	}
	if !m.matchTurns(p.Items[at-1], left[at-1:at-1+over], out) {
		return false
	}
	left = left[at-1+over:]
	for i, q := range p.Items[at+1:] {
		if !m.match(q, left[i], out) {
			return false
		}
	}
	return m.matchRest(p, left[len(p.Items)-at-1:], f, out)
}

func (m *matcher) matchTurns(p api.Datum, forms []api.Datum, out map[key]*tree) bool {
	for _, v := range m.variables(p) {
		out[v] = &tree{deep: m.depth(p, v) + 1}
	}
	for _, f := range forms {
		turn := map[key]*tree{}
		if !m.match(p, f, turn) {
			return false
		}
		for k, t := range turn {
			out[k].turns = append(out[k].turns, t)
		}
	}
	return true
}

func (m *matcher) variables(p api.Datum) []key {
	if m.mac.isVariable(p) {
		return []key{keyOf(p)}
	}
	var out []key
	if p.Kind == api.List || p.Kind == api.Vector {
		for _, q := range partsOf(p) {
			out = append(out, m.variables(q)...)
		}
	}
	return out
}

// depth is how many ellipses a variable stands under in a pattern.
func (m *matcher) depth(p api.Datum, v key) int {
	for i, q := range partsOf(p) {
		if slices.Contains(m.variables(q), v) {
			deep := m.depth(q, v)
			if i+1 < len(p.Items) && m.mac.patternDots(p.Items[i+1]) {
				deep++
			}
			return deep
		}
	}
	return 0
}

func (m *matcher) matchRest(p api.Datum, left []api.Datum, f api.Datum, out map[key]*tree) bool {
	rest := f.Rest
	if f.Kind != api.List {
		rest = nil
	}
	if p.Kind != api.List || len(p.Rest) == 0 {
		return len(left) == 0 && len(rest) == 0
	}
	if len(left) == 0 && len(rest) > 0 {
		return m.match(p.Rest[0], rest[0], out)
	}
	return m.match(p.Rest[0], api.Datum{Kind: api.List, Items: left, Rest: rest}, out)
}

func (m *model) use(mac *modelMacro, d api.Datum, e *env) api.Datum {
	if m.uses++; m.uses > api.MaxSteps {
		panic(api.ErrSteps)
	}
	for _, r := range mac.rules {
		out := map[key]*tree{}
		if (&matcher{m, mac, e}).match(tail(r.Items[0]), tail(d), out) {
			w := writer{m, mac, map[key]int{}, 0}
			form := w.write(r.Items[1], out, false)
			if depthOf(form) > api.MaxDepth {
				panic(api.ErrDeep)
			}
			return form
		}
	}
	panic(api.ErrMatch)
}

// writer fills a template, and gives new marks when symbols are written.
type writer struct {
	*model
	mac   *modelMacro
	marks map[key]int
	parts int
}

func (w *writer) count(n int) {
	if w.parts += n; w.parts > api.MaxSteps {
		panic(api.ErrSteps)
	}
}

func size(d api.Datum) int {
	n := 1
	for _, p := range partsOf(d) {
		n += size(p)
	}
	return n
}

func (w *writer) write(t api.Datum, binds map[key]*tree, escaped bool) api.Datum {
	dots := func(d api.Datum) bool { return !escaped && w.mac.isDots(d) }
	switch {
	case dots(t):
		panic(api.ErrMatch)
	case t.Kind == api.Symbol:
		return w.symbol(t, binds)
	case t.Kind != api.List && t.Kind != api.Vector:
		w.count(size(t))
		return t
	case proper(t) && len(t.Items) == 2 && dots(t.Items[0]):
		return w.write(t.Items[1], binds, true)
	}
	out := api.Datum{Kind: t.Kind}
	isDotted := t.Kind == api.List && len(t.Rest) > 0
	if !isDotted {
		w.count(1)
	}
	for i := 0; i < len(t.Items); {
		n := 1
		for i+n < len(t.Items) && dots(t.Items[i+n]) {
			n++
		}
		w.turns(t.Items[i], n-1, binds, escaped, func(d func() api.Datum) {
			if isDotted && len(out.Items) == 0 {
				w.count(1)
			}
			out.Items = append(out.Items, d())
		})
		i += n
	}
	if !isDotted {
		return out
	}
	rest := w.write(t.Rest[0], binds, escaped)
	switch {
	case len(out.Items) == 0:
		return rest
	case rest.Kind == api.List:
		out.Items, out.Rest = append(out.Items, rest.Items...), rest.Rest
	default:
		out.Rest = []api.Datum{rest}
	}
	return out
}

func (w *writer) turns(t api.Datum, dots int, binds map[key]*tree, escaped bool, add func(func() api.Datum)) {
	if dots == 0 {
		add(func() api.Datum { return w.write(t, binds, escaped) })
		return
	}
	n := -1
	for _, k := range w.standing(t, escaped) {
		if b := binds[k]; b != nil && b.deep > 0 {
			if n >= 0 && n != len(b.turns) {
				panic(api.ErrMatch)
			}
			n = len(b.turns)
		}
	}
	if n < 0 {
		panic(api.ErrMatch)
	}
	for i := range n {
		in := map[key]*tree{}
		for k, b := range binds {
			in[k] = b
		}
		for _, k := range w.standing(t, escaped) {
			if b := binds[k]; b != nil && b.deep > 0 {
				in[k] = b.turns[i]
			}
		}
		w.turns(t, dots-1, in, escaped, add)
	}
}

// standing are the symbols that stand in a template and are no ellipses.
func (w *writer) standing(t api.Datum, escaped bool) []key {
	if t.Kind == api.Symbol && (escaped || !w.mac.isDots(t)) {
		return []key{keyOf(t)}
	}
	var out []key
	if proper(t) && len(t.Items) == 2 && !escaped && w.mac.isDots(t.Items[0]) {
		return w.standing(t.Items[1], true)
	}
	if t.Kind == api.List || t.Kind == api.Vector {
		for _, p := range partsOf(t) {
			out = append(out, w.standing(p, escaped)...)
		}
	}
	return out
}

func (w *writer) symbol(t api.Datum, binds map[key]*tree) api.Datum {
	if b := binds[keyOf(t)]; b != nil {
		if b.deep > 0 {
			panic(api.ErrMatch)
		}
		w.count(size(b.d))
		return b.d
	}
	w.count(1)
	if w.marks[keyOf(t)] == 0 {
		w.origins = append(w.origins, origin{keyOf(t), w.mac.env})
		w.marks[keyOf(t)] = len(w.origins)
	}
	return marked(t.Text, w.marks[keyOf(t)])
}

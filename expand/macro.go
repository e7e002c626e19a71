package expand

import (
	"tandem/api"
	"tandem/match"
)

// macro embeds the scope in which it was defined: what its own symbols mean is asked there.
type macro struct {
	*scope
	rules []rule
}

// learn makes the macro's rules of (syntax-rules ..).
func (m *macro) learn(d api.Datum) api.Errno {
	if m.head(d) != special("syntax-rules") || len(d.Items) < 2 || !areRules(d.Items[1], d.Items[2:]) {
		return api.ErrForm
	}
	for _, r := range d.Items[2:] {
		made := ruleOf(m.scope, d.Items[1].Items, r.Items[0], r.Items[1])
		if _, e := match.Vars(made.pattern); e != api.OK {
			return e
		}
		m.rules = append(m.rules, made)
	}
	return api.OK
}

func areRules(literals api.Datum, rules []api.Datum) bool {
	if !isRow(literals, 0) || !areSymbols(literals.Items) {
		return false
	}
	for _, r := range rules {
		if !isRow(r, 2) || len(r.Items) > 2 || r.Items[0].Kind != api.List || len(r.Items[0].Items) == 0 {
			return false
		}
	}
	return true
}

// newForm is the form that a macro makes of its use.
func (x *expander) newForm(m *macro, s *scope, form api.Datum) (api.Datum, api.Errno) {
	if x.uses == api.MaxSteps {
		return api.Datum{}, api.ErrSteps
	}
	x.uses++
	form.Items = form.Items[1:]
	for _, r := range m.rules {
		binds, ok := match.Match(r.pattern, form)
		if ok && m.allMean(s, r.literals, binds) {
			return x.filled(m, r, binds)
		}
	}
	return api.Datum{}, api.ErrMatch
}

// allMean tells whether what stands where a rule has literals means there what they mean in the macro.
func (m *macro) allMean(s *scope, literals map[int]api.Datum, binds []api.Bind) bool {
	for i, b := range binds {
		if literal, ok := literals[i]; ok && !s.mean(b, m.means(literal)) {
			return false
		}
	}
	return true
}

// mean tells whether all that a bind stands for are symbols of that meaning.
func (s *scope) mean(b api.Bind, m meaning) bool {
	if b.Depth == 0 {
		return b.D.Kind == api.Symbol && s.means(b.D) == m
	}
	for _, sub := range b.Subs {
		if !s.mean(sub, m) {
			return false
		}
	}
	return true
}

// filled is what comes of a rule's template, with new marks.
func (x *expander) filled(m *macro, r rule, binds []api.Bind) (api.Datum, api.Errno) {
	for _, n := range r.own {
		binds = append(binds, bindOf(len(binds), x.rename(n, m)))
	}
	d, e := match.Fill(r.template, binds)
	if e == api.OK && isDeeper(d, api.MaxDepth) {
		return api.Datum{}, api.ErrDeep
	}
	return d, e
}

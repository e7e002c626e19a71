package expand

import "tandem/api"

// loop is what a do tells.
type loop struct {
	pairs
	steps    []api.Datum
	end      []api.Datum // the test, and what follows it
	commands []api.Datum
}

func loopOf(form api.Datum) (loop, bool) {
	if len(form.Items) < 3 || !isRow(form.Items[1], 0) || !isRow(form.Items[2], 1) {
		return loop{}, false
	}
	l := loop{end: form.Items[2].Items, commands: form.Items[3:]}
	for _, spec := range form.Items[1].Items {
		if !isRow(spec, 2) || len(spec.Items) > 3 || spec.Items[0].Kind != api.Symbol {
			return loop{}, false
		}
		l.symbols = append(l.symbols, spec.Items[0])
		l.values = append(l.values, spec.Items[1])
		l.steps = append(l.steps, stepOf(spec))
	}
	return l, areDistinct(l.symbols)
}

// stepOf is what a variable of a loop becomes: if nothing is told, itself.
func stepOf(spec api.Datum) api.Datum {
	if len(spec.Items) < 3 {
		return spec.Items[0]
	}
	return spec.Items[2]
}

func (x *expander) do(s *scope, form api.Datum) (step, api.Errno) {
	l, ok := loopOf(form)
	if !ok {
		return step{}, api.ErrForm
	}
	vars := x.variables(len(l.symbols))
	body := func() (api.Core, api.Errno) { return x.turn(s.with(l.symbols, vars), l)() }
	return done(x.build(api.Core{Kind: api.CLoop, Vars: vars}, append(x.each(s, l.values), body)...))
}

// turn is a loop's body.
func (x *expander) turn(s *scope, l loop) part {
	result := x.constant(void())
	if len(l.end) > 1 {
		result = x.forms(s, l.end[1:])
	}
	again := x.node(api.Core{Kind: api.CAgain}, x.each(s, l.steps)...)
	return x.choice(x.of(s, l.end[0]), result, x.sequence(append(x.each(s, l.commands), again)...))
}

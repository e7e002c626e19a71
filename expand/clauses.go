package expand

import "tandem/api"

// isElse tells whether a clause is an else's.
func (s *scope) isElse(clause api.Datum) bool { return s.is(clause.Items[0], "else") }

// isArrow tells whether a clause hands its test on.
func (s *scope) isArrow(clause api.Datum) bool {
	return len(clause.Items) > 1 && s.is(clause.Items[1], "=>")
}

// areClauses tells whether all clauses have their shape: an else is the last one, and has forms; others are as is told.
func (s *scope) areClauses(clauses []api.Datum, others func(clause api.Datum) bool) bool {
	for i, clause := range clauses {
		switch {
		case !isRow(clause, 1):
			return false
		case s.isElse(clause):
			if i < len(clauses)-1 || len(clause.Items) < 2 {
				return false
			}
		case !others(clause):
			return false
		}
	}
	return len(clauses) > 0
}

func (x *expander) cond(s *scope, form api.Datum) (step, api.Errno) {
	clauses := form.Items[1:]
	others := func(clause api.Datum) bool { return !s.isArrow(clause) || len(clause.Items) == 3 }
	if !s.areClauses(clauses, others) {
		return step{}, api.ErrForm
	}
	return x.clauses(s, clauses)
}

func (x *expander) clauses(s *scope, clauses []api.Datum) (step, api.Errno) {
	if len(clauses) == 0 {
		return done(x.constant(void())())
	}
	items := clauses[0].Items
	if s.isElse(clauses[0]) {
		return x.run(s, items[1:])
	}
	test := x.of(s, items[0])
	rest := func() (api.Core, api.Errno) { return x.finish(x.clauses(s, clauses[1:])) }
	switch {
	case len(items) == 1:
		return done(x.either(test, rest)())
	case s.isArrow(clauses[0]):
		return done(x.holding(test, func(v int) part {
			handed := x.node(api.Core{Kind: api.CCall}, x.of(s, items[2]), x.local(v))
			return x.choice(x.local(v), handed, rest)
		})())
	}
	return done(x.choice(test, x.forms(s, items[1:]), rest)())
}

func (x *expander) caseOf(s *scope, form api.Datum) (step, api.Errno) {
	if len(form.Items) < 2 {
		return step{}, api.ErrForm
	}
	clauses := form.Items[2:]
	others := func(clause api.Datum) bool { return isRow(clause.Items[0], 0) && len(clause.Items) > 1 }
	if !s.areClauses(clauses, others) {
		return step{}, api.ErrForm
	}
	key := x.of(s, form.Items[1])
	return done(x.holding(key, func(v int) part { return x.cases(s, v, clauses) })())
}

// cases are the clauses of a case whose key a variable has.
func (x *expander) cases(s *scope, v int, clauses []api.Datum) part {
	if len(clauses) == 0 {
		return x.constant(void())
	}
	items := clauses[0].Items
	if s.isElse(clauses[0]) {
		return x.forms(s, items[1:])
	}
	rest := func() (api.Core, api.Errno) { return x.cases(s, v, clauses[1:])() }
	return x.choice(x.oneOf(v, items[0].Items), x.forms(s, items[1:]), rest)
}

// oneOf is the test whether a variable is one of some data.
func (x *expander) oneOf(v int, data []api.Datum) part {
	switch len(data) {
	case 0:
		return x.constant(boolean(0))
	case 1:
		return x.prim("eqv?", x.local(v), x.constant(data[0]))
	}
	return x.prim("memv", x.local(v), x.constant(list(data...)))
}

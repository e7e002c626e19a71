package emit_test

import (
	"slices"
	"testing"

	"tandem/api"
	"tandem/emit"
)

// dice is a row of numbers that is the same in each run.
type dice uint64

func (d *dice) below(n int) int {
	*d ^= *d << 13
	*d ^= *d >> 7
	*d ^= *d << 17
	return int(uint64(*d) >> 11 % uint64(n))
}

// known is a variable that is bound, and how many arguments it takes, if it is a procedure (else -1).
type known struct{ v, args int }

// maker makes programs.
type maker struct {
	dice
	vars int
}

// around is what forms see: variables, and, in a tail place of a loop's body, how many that loop has (else -1).
type around struct {
	known []known
	turn  int
}

func (a around) value() around { a.turn = -1; return a }

func (a around) with(more ...known) around {
	a.known = append(slices.Clone(a.known), more...)
	return a
}

func (m *maker) new(n int) []int {
	m.vars += n
	return vars(m.vars-n, n)
}

func (m *maker) datum() api.Datum {
	switch m.below(9) {
	case 0:
		return boolean(m.below(2))
	case 1:
		return symbol([]string{"a", "b"}[m.below(2)])
	case 2:
		return text("a")
	case 3:
		return list(whole(1), whole(2))
	case 4:
		return api.Datum{Kind: api.Char, N: 65 + m.below(2)}
	case 5:
		return api.Datum{Kind: api.Void}
	}
	return whole(int64(m.below(5) - 2))
}

func (m *maker) leaf(a around) api.Core {
	if n := len(a.known); n > 0 && m.below(3) > 0 {
		return local(a.known[m.below(n)].v)
	}
	switch m.below(6) {
	case 0:
		return global([]string{"g", "h"}[m.below(2)])
	case 1:
		return api.Core{Kind: api.CPrim, N: m.below(len(api.Prims()))}
	}
	return data(m.datum())
}

// form is a right form of at most so many parts, or a few more.
func (m *maker) form(size int, a around) api.Core {
	if a.turn >= 0 && m.below(4) == 0 {
		return again(m.forms(a.turn, size, a.value())...)
	}
	if size < 3 {
		return m.leaf(a)
	}
	switch m.below(13) {
	case 0, 1:
		return choice(m.form(size/3, a.value()), m.form(size/2, a), m.form(size/2, a))
	case 2:
		c, _ := m.procedure(size, a.value())
		return c
	case 3:
		return sequence(append(m.forms(1+m.below(2), size/2, a.value()), m.form(size/2, a))...)
	case 4:
		if n := len(a.known); n > 0 {
			return setLocal(a.known[m.below(n)].v, m.form(size-1, a.value()))
		}
		return setGlobal("g", m.form(size-1, a.value()))
	case 5:
		return []func(string, api.Core) api.Core{setGlobal, define}[m.below(2)]([]string{"g", "h"}[m.below(2)], m.form(size-1, a.value()))
	case 6, 7:
		return m.let(size, a)
	case 8:
		return m.rec(size, a)
	case 9, 10:
		return m.loop(size, a)
	case 11:
		return m.call(size, a.value())
	}
	return m.primCall(size, a.value())
}

func (m *maker) forms(n, size int, a around) []api.Core {
	var all []api.Core
	for range n {
		all = append(all, m.form(size/max(n, 1), a))
	}
	return all
}

func (m *maker) procedure(size int, a around) (api.Core, int) {
	n := m.below(4)
	args := m.new(n)
	var more []known
	for _, v := range args {
		more = append(more, known{v, -1})
	}
	c := lambda(args, m.form(size-1, a.with(more...)))
	c.Rest = n > 0 && m.below(4) == 0
	c.Name = []string{"", "p", "q"}[m.below(3)]
	return c, n
}

// value is a form for a variable, a procedure at times.
func (m *maker) value(v, size int, a around) (api.Core, known) {
	if m.below(3) > 0 {
		return m.form(size, a.value()), known{v, -1}
	}
	c, n := m.procedure(size, a.value())
	return c, known{v, n}
}

func (m *maker) let(size int, a around) api.Core {
	own := m.new(m.below(4))
	var subs []api.Core
	in := a
	for _, v := range own {
		c, k := m.value(v, size/(len(own)+1), a)
		subs, in = append(subs, c), in.with(k)
	}
	return let(own, append(subs, m.form(size/2, in))...)
}

func (m *maker) rec(size int, a around) api.Core {
	own := m.new(m.below(4))
	in := a
	for _, v := range own {
		in = in.with(known{v, -1})
	}
	var subs []api.Core
	for i, v := range own {
		c, k := m.value(v, size/(len(own)+1), in)
		subs = append(subs, c)
		in = in.with() // a list of its own
		in.known[len(a.known)+i] = k
	}
	return rec(own, append(subs, m.form(size/2, in))...)
}

func (m *maker) loop(size int, a around) api.Core {
	own := m.new(m.below(3))
	in := a
	in.turn = len(own)
	var subs []api.Core
	for _, v := range own {
		c, k := m.value(v, size/(len(own)+2), a)
		subs, in = append(subs, c), in.with(k)
	}
	return loop(own, append(subs, m.form(size, in))...)
}

func (m *maker) call(size int, a around) api.Core {
	var operators []known
	for _, k := range a.known {
		if k.args >= 0 {
			operators = append(operators, k)
		}
	}
	if len(operators) > 0 && m.below(4) > 0 {
		k := operators[m.below(len(operators))]
		return call(append([]api.Core{local(k.v)}, m.forms(k.args, size, a)...)...)
	}
	if m.below(10) > 0 {
		c, n := m.procedure(size/2, a)
		return call(append([]api.Core{c}, m.forms(n, size/2, a)...)...)
	}
	return call(m.forms(1+m.below(3), size, a)...)
}

func (m *maker) primCall(size int, a around) api.Core {
	n := m.below(len(api.Prims()))
	if m.below(3) > 0 {
		n = []int{0, 1, 3, 4, 27, 37, 38, 42}[m.below(8)]
	}
	p := api.Prims()[n]
	args := p.Least + m.below(3)
	if p.Most >= 0 && m.below(4) > 0 {
		args = p.Most
	}
	return call(append([]api.Core{{Kind: api.CPrim, N: n}}, m.forms(args, size, a)...)...)
}

// program is a right program.
func (m *maker) program() []api.Core {
	m.vars = m.below(3)
	return m.forms(m.below(4), 10+m.below(60), around{turn: -1})
}

// compares wants what the model tells of forms.
func compares(t *testing.T, cores []api.Core) ([]api.Proto, api.Errno) {
	t.Helper()
	ps, e := emit.Program(cores)
	want, wantE := modelProgram(cores)
	if e != wantE || toldAll(ps) != toldAll(want) {
		t.Fatalf("%s: error %d\n%s\nnot %d\n%s", brief(cores), e, toldAll(ps), wantE, toldAll(want))
	}
	if e == api.OK {
		if wrong := wrongCode(ps); wrong != "" {
			t.Fatalf("%s: %s\n%s", brief(cores), wrong, toldAll(ps))
		}
	}
	return ps, e
}

// seeds are the forms of all tables.
func seeds(t *testing.T) [][]api.Core {
	var all [][]api.Core
	for _, rows := range [][]row{handMade(), endless()} {
		for _, r := range rows {
			all = append(all, r.cores)
		}
	}
	for _, some := range [][]source{plainSources(), callSources(), tailSources(), letSources(), closureSources(), loopSources()} {
		for _, s := range some {
			all = append(all, forms(t, s.program))
		}
	}
	return append(all, forms(t, api.Prelude))
}

// P9.1, P9.2, of all tables and of programs of all kinds.
func TestAnyProgram(t *testing.T) {
	for _, cores := range seeds(t) {
		if _, e := compares(t, cores); e != api.OK {
			t.Errorf("%s: error %d", brief(cores), e)
		}
	}
	m := maker{dice: 1}
	kinds := map[int]int{}
	for range 10000 {
		cores := m.program()
		if _, e := compares(t, cores); e != api.OK {
			t.Fatalf("%s: error %d", brief(cores), e)
		}
		for i := range cores {
			each(&cores[i], nil, func(c *api.Core, _ []step) { kinds[c.Kind]++ })
		}
	}
	for kind := range 15 {
		if kinds[kind+1] < 1000 {
			t.Errorf("kind %d: %d", kind+1, kinds[kind+1])
		}
	}
}

// turned is a program in which something is another.
func (m *maker) turned(cores []api.Core) []api.Core {
	cores = cloned(cores)
	var all []*api.Core
	for i := range cores {
		each(&cores[i], nil, func(c *api.Core, _ []step) { all = append(all, c) })
	}
	if len(all) == 0 {
		return cores
	}
	c, other := all[m.below(len(all))], all[m.below(len(all))]
	switch m.below(12) {
	case 0:
		c.Kind = m.below(18) - 1
	case 1:
		c.N += m.below(5) - 2
	case 2:
		c.Rest = !c.Rest
	case 3:
		c.Vars = append(slices.Clone(c.Vars), m.below(m.vars+2))
	case 4:
		if n := len(c.Vars); n > 0 {
			c.Vars = slices.Clone(c.Vars)
			c.Vars[m.below(n)] = m.below(m.vars + 2)
		}
	case 5:
		c.Subs = append(slices.Clone(c.Subs), cloned([]api.Core{*other})...)
	case 6:
		if n := len(c.Subs); n > 0 {
			i := m.below(n)
			c.Subs = slices.Delete(slices.Clone(c.Subs), i, i+1)
		}
	case 7:
		if n := len(c.Subs); n > 1 {
			i, j := m.below(n), m.below(n)
			c.Subs[i], c.Subs[j] = c.Subs[j], c.Subs[i]
		}
	case 8:
		*c = cloned([]api.Core{*other})[0]
	case 9:
		c.D = append(slices.Clone(c.D), m.datum())
	case 10:
		*c = again(m.forms(m.below(3), 1, around{turn: -1})...)
	case 11:
		c.Kind, other.Kind = other.Kind, c.Kind
	}
	return cores
}

// P9.1, R1: right and wrong forms.
func TestTurned(t *testing.T) {
	m := maker{dice: 3}
	all := seeds(t)
	found := map[api.Errno]int{}
	const rounds = 30000
	for range rounds {
		cores := all[m.below(len(all))]
		if m.below(2) == 0 {
			cores = m.program()
		}
		for range 1 + m.below(2) {
			cores = m.turned(cores)
		}
		_, e := compares(t, cores)
		found[e]++
	}
	if found[api.OK] < rounds/10 || found[api.ErrArg] < rounds/10 {
		t.Error(found)
	}
}

package emit_test

import (
	"slices"
	"strconv"
	"strings"

	"tandem/api"
	"tandem/match"
)

// A second emitter, made another way: forms are asked one by one where they stand, a procedure's free variables are found ahead of its code, code has labels, and constants and names are numbered when all of it is there. It knows of no ErrLong.

func modelProgram(cores []api.Core) ([]api.Proto, api.Errno) {
	if areWrong(cores) {
		return nil, api.ErrArg
	}
	m := model{all: cloned(cores), protos: []api.Proto{{}}}
	for i := range m.all {
		each(&m.all[i], nil, func(c *api.Core, _ []step) {
			switch c.Kind {
			case api.CSetLoc:
				m.boxed = append(m.boxed, c.N)
			case api.CRec:
				m.boxed = append(m.boxed, c.Vars...)
			case api.CLambda:
				m.lambdas = append(m.lambdas, c)
			}
		})
	}
	m.protos[0] = m.assembled(api.Proto{}, m.program())
	for _, c := range m.lambdas {
		m.protos = append(m.protos, m.procedure(c))
	}
	return m.protos, api.OK
}

func cloned(cores []api.Core) []api.Core {
	all := slices.Clone(cores)
	for i := range all {
		all[i].Subs = cloned(all[i].Subs)
	}
	return all
}

// step is a form around another, and as which part the latter stands in it.
type step struct {
	c    *api.Core
	part int
}

// each goes through a form and all within it, the outer ones first, left to right.
func each(c *api.Core, path []step, look func(c *api.Core, path []step)) {
	look(c, path)
	for i := range c.Subs {
		each(&c.Subs[i], append(slices.Clone(path), step{c, i}), look)
	}
}

func areWrong(cores []api.Core) bool {
	wrong := false
	var bound []int
	n := 0
	for i := range cores {
		each(&cores[i], nil, func(c *api.Core, path []step) {
			n++
			bound = append(bound, c.Vars...)
			wrong = wrong || isMisshapen(c) || isMisplaced(c, path)
		})
	}
	slices.Sort(bound)
	return wrong || n > api.MaxCore || len(slices.Compact(bound)) < len(bound)
}

// isMisshapen: how many Subs, Vars, D a kind has: so many, or so many and more, or any; v: as many as Vars, and one.
func isMisshapen(c *api.Core) bool {
	shape := map[int]string{
		api.CConst: "0 0 1", api.CLocal: "0 0 0", api.CGlobal: "0 0 0", api.CPrim: "0 0 0", api.CIf: "3 0 0", api.CLambda: "1 * 0", api.CCall: "1+ 0 0", api.CSeq: "2+ 0 0",
		api.CSetLoc: "1 0 0", api.CSetGlo: "1 0 0", api.CDefine: "1 0 0", api.CLet: "v * 0", api.CRec: "v * 0", api.CLoop: "v * 0", api.CAgain: "* 0 0",
	}[c.Kind]
	if shape == "" || c.Kind == api.CLambda && c.Rest && len(c.Vars) == 0 {
		return true
	}
	has := []int{len(c.Subs), len(c.Vars), len(c.D)}
	for i, want := range strings.Fields(shape) {
		least, _ := strconv.Atoi(strings.TrimSuffix(want, "+"))
		switch {
		case want == "*":
		case want == "v" && has[i] == len(c.Vars)+1:
		case strings.HasSuffix(want, "+") && has[i] >= least:
		case want == strconv.Itoa(has[i]):
		default:
			return true
		}
	}
	return false
}

func isMisplaced(c *api.Core, path []step) bool {
	switch c.Kind {
	case api.CConst:
		return len(c.D) == 1 && depthOf(c.D[0]) > api.MaxDepth
	case api.CPrim:
		return c.N < 0 || c.N >= len(api.Prims())
	case api.CLocal, api.CSetLoc:
		return !slices.ContainsFunc(path, func(s step) bool {
			return slices.Contains(s.c.Vars, c.N) && (s.c.Kind == api.CRec || s.part == len(s.c.Subs)-1)
		})
	case api.CAgain:
		for i := range path {
			s := path[len(path)-1-i]
			last := s.part == len(s.c.Subs)-1
			switch {
			case s.c.Kind == api.CLoop && last:
				return len(c.Subs) != len(s.c.Vars)
			case s.c.Kind == api.CIf && s.part > 0:
			case (s.c.Kind == api.CSeq || s.c.Kind == api.CLet || s.c.Kind == api.CRec) && last:
			default:
				return true
			}
		}
		return true
	}
	return false
}

func depthOf(d api.Datum) int {
	deep := 0
	parts := slices.Clone(d.Items)
	if d.Kind == api.List && len(d.Rest) > 0 {
		parts = append(parts, d.Rest[0])
	}
	if d.Kind == api.List || d.Kind == api.Vector || d.Kind == api.Cond {
		for _, p := range parts {
			deep = max(deep, depthOf(p))
		}
	}
	return deep + 1
}

// line is an instruction, or a label.
type line struct {
	api.Ins
	label string // where it stands, or goes
	datum []api.Datum
	name  []string
}

func plain(op int, operands ...int) line {
	operands = append(operands, 0, 0)
	return line{Ins: api.Ins{Op: op, A: operands[0], B: operands[1]}}
}
func konstLine(d api.Datum) line { return line{Ins: api.Ins{Op: api.OpConst}, datum: []api.Datum{d}} }
func nameLine(op int, name string) line {
	return line{Ins: api.Ins{Op: op}, name: []string{name}}
}
func labelled(op int, label string) line { return line{Ins: api.Ins{Op: op}, label: label} }

type model struct {
	all     []api.Core
	lambdas []*api.Core
	boxed   []int
	protos  []api.Proto
	labels  int
}

// spot is where a form stands: the variables' slots and the closure's values, how deep the frame is, whether it is a tail place, and the loop that may begin again.
type spot struct {
	slots map[int]int
	free  []int
	depth int
	tail  bool
	loop  *api.Core
	start string
	below int // the loop's variables' last slot, and one
}

func (s spot) value(more int) spot {
	s.depth += more
	s.tail, s.loop = false, nil
	return s
}

func (m *model) label(what string) string {
	m.labels++
	return what + strconv.Itoa(m.labels)
}

func (m *model) isBoxed(v int) bool { return slices.Contains(m.boxed, v) }

func isEndless(c *api.Core) bool {
	switch c.Kind {
	case api.CAgain:
		return true
	case api.CIf:
		return isEndless(&c.Subs[1]) && isEndless(&c.Subs[2])
	case api.CSeq, api.CLet, api.CRec, api.CLoop:
		return isEndless(&c.Subs[len(c.Subs)-1])
	}
	return false
}

// freeOf are the variables that stand free in a procedure.
func freeOf(c *api.Core) []int {
	var bound, met []int
	each(c, nil, func(c *api.Core, _ []step) {
		bound = append(bound, c.Vars...)
		if c.Kind == api.CLocal || c.Kind == api.CSetLoc {
			met = append(met, c.N)
		}
	})
	var free []int
	for _, v := range met {
		if !slices.Contains(bound, v) && !slices.Contains(free, v) {
			free = append(free, v)
		}
	}
	return free
}

func (m *model) program() []line {
	if len(m.all) == 0 {
		return []line{konstLine(api.Datum{Kind: api.Void}), plain(api.OpReturn)}
	}
	var out []line
	for i := range m.all {
		out = append(out, m.code(&m.all[i], spot{slots: map[int]int{}})...)
		if i < len(m.all)-1 && !isEndless(&m.all[i]) {
			out = append(out, plain(api.OpPop))
		}
	}
	return append(out, plain(api.OpReturn))
}

func (m *model) procedure(c *api.Core) api.Proto {
	s := spot{slots: map[int]int{}, free: freeOf(c), depth: len(c.Vars), tail: true}
	var out []line
	for i, v := range c.Vars {
		s.slots[v] = i
		if m.isBoxed(v) {
			out = append(out, plain(api.OpLocal, i), plain(api.OpBox), plain(api.OpStore, i))
		}
	}
	head := api.Proto{Name: c.Name, Args: len(c.Vars), Rest: c.Rest, Free: len(s.free)}
	if c.Rest {
		head.Args--
	}
	return m.assembled(head, append(out, m.code(&c.Subs[0], s)...))
}

func (m *model) asItIs(v int, s spot) line {
	if i := slices.Index(s.free, v); i >= 0 {
		return plain(api.OpFree, i)
	}
	if m.isBoxed(v) {
		return plain(api.OpPick, s.slots[v])
	}
	return plain(api.OpLocal, s.slots[v])
}

// code is what a form comes to, with what ends it in a tail place.
func (m *model) code(c *api.Core, s spot) []line {
	switch c.Kind {
	case api.CIf, api.CSeq, api.CLet, api.CRec, api.CLoop, api.CAgain:
		return m.parts(c, s)
	}
	out := m.pushed(c, s)
	if s.tail {
		if out[len(out)-1].Op == api.OpCall {
			out[len(out)-1].Op = api.OpTail
			return out
		}
		return append(out, plain(api.OpReturn))
	}
	return out
}

func (m *model) each(forms []api.Core, s spot) []line {
	var out []line
	for i := range forms {
		out = append(out, m.code(&forms[i], s.value(i))...)
	}
	return out
}

func (m *model) pushed(c *api.Core, s spot) []line {
	switch c.Kind {
	case api.CConst:
		return []line{konstLine(c.D[0])}
	case api.CPrim:
		return []line{konstLine(api.Datum{Kind: api.Proc, N: c.N})}
	case api.CGlobal:
		return []line{nameLine(api.OpGlobal, c.Name)}
	case api.CLocal:
		if m.isBoxed(c.N) {
			return []line{m.asItIs(c.N, s), plain(api.OpUnbox)}
		}
		return []line{m.asItIs(c.N, s)}
	case api.CSetLoc:
		return slices.Concat([]line{m.asItIs(c.N, s)}, m.each(c.Subs, s.value(1)), []line{plain(api.OpSetBox)})
	case api.CSetGlo:
		return append(m.each(c.Subs, s), nameLine(api.OpSetGlo, c.Name))
	case api.CDefine:
		return append(m.each(c.Subs, s), nameLine(api.OpDefine, c.Name))
	case api.CLambda:
		var out []line
		free := freeOf(c)
		for _, v := range free {
			out = append(out, m.asItIs(v, s))
		}
		return append(out, plain(api.OpClosure, 1+slices.Index(m.lambdas, c), len(free)))
	}
	n := len(c.Subs) - 1
	if c.Subs[0].Kind == api.CPrim && c.Subs[0].N < slices.IndexFunc(api.Prims(), func(p api.Prim) bool { return p.Name == "apply" }) {
		if p := api.Prims()[c.Subs[0].N]; n >= p.Least && (n <= p.Most || p.Most == -1) {
			return append(m.each(c.Subs[1:], s), plain(api.OpPrim, c.Subs[0].N, n))
		}
	}
	return append(m.each(c.Subs, s), plain(api.OpCall, n))
}

func (m *model) parts(c *api.Core, s spot) []line {
	last := len(c.Subs) - 1
	switch c.Kind {
	case api.CIf:
		other, behind := m.label("else"), m.label("behind")
		out := append(m.code(&c.Subs[0], s.value(0)), labelled(api.OpFalse, other))
		out = append(out, m.code(&c.Subs[1], s)...)
		if !s.tail && !isEndless(&c.Subs[1]) {
			out = append(out, labelled(api.OpJump, behind))
		}
		return slices.Concat(out, []line{labelled(0, other)}, m.code(&c.Subs[2], s), []line{labelled(0, behind)})
	case api.CSeq:
		var out []line
		for i := range last {
			out = append(out, m.code(&c.Subs[i], s.value(0))...)
			if !isEndless(&c.Subs[i]) {
				out = append(out, plain(api.OpPop))
			}
		}
		return append(out, m.code(&c.Subs[last], s)...)
	case api.CAgain:
		return m.anew(c, s)
	}
	out, s := m.bound(c, s)
	out = append(out, m.code(&c.Subs[last], s)...)
	if !s.tail && last > 0 && !isEndless(&c.Subs[last]) {
		out = append(out, plain(api.OpSlide, last))
	}
	return out
}

// bound is what stands ahead of a body, and where the body stands.
func (m *model) bound(c *api.Core, s spot) ([]line, spot) {
	var out []line
	in := s
	in.depth += len(c.Vars)
	in.slots = map[int]int{}
	for v, slot := range s.slots {
		in.slots[v] = slot
	}
	for i, v := range c.Vars {
		in.slots[v] = s.depth + i
	}
	if c.Kind == api.CRec {
		for range c.Vars {
			out = append(out, konstLine(api.Datum{Kind: api.Symbol, N: -1}), plain(api.OpBox))
		}
	}
	for i, v := range c.Vars {
		if c.Kind == api.CRec {
			out = append(out, plain(api.OpPick, in.slots[v]))
			out = append(out, m.code(&c.Subs[i], in.value(1))...)
			out = append(out, plain(api.OpSetBox), plain(api.OpPop))
			continue
		}
		out = append(out, m.code(&c.Subs[i], s.value(i))...)
		if m.isBoxed(v) {
			out = append(out, plain(api.OpBox))
		}
	}
	if c.Kind == api.CLoop {
		in.loop, in.start, in.below = c, m.label("loop"), in.depth
		out = append(out, labelled(0, in.start), plain(api.OpLoop))
	}
	return out, in
}

func (m *model) anew(c *api.Core, s spot) []line {
	var out []line
	for i, v := range s.loop.Vars {
		out = append(out, m.code(&c.Subs[i], s.value(i))...)
		if m.isBoxed(v) {
			out = append(out, plain(api.OpBox))
		}
	}
	for _, v := range slices.Backward(s.loop.Vars) {
		out = append(out, plain(api.OpStore, s.slots[v]))
	}
	for range s.depth - s.below {
		out = append(out, plain(api.OpPop))
	}
	return append(out, labelled(api.OpJump, s.start))
}

// assembled is a proto with these lines.
func (m *model) assembled(p api.Proto, lines []line) api.Proto {
	at := map[string]int{}
	n := 0
	for _, l := range lines {
		if l.Op == 0 {
			at[l.label] = n
		} else {
			n++
		}
	}
	for _, l := range lines {
		switch {
		case l.Op == 0:
			continue
		case l.label != "":
			l.A = at[l.label]
		case l.name != nil:
			if !slices.Contains(p.Names, l.name[0]) {
				p.Names = append(p.Names, l.name[0])
			}
			l.A = slices.Index(p.Names, l.name[0])
		case l.datum != nil:
			l.A = slices.IndexFunc(p.Consts, func(d api.Datum) bool { return alike(d, l.datum[0]) })
			if l.A < 0 {
				l.A = len(p.Consts)
				p.Consts = append(p.Consts, l.datum[0])
			}
		}
		p.Code = append(p.Code, l.Ins)
	}
	return p
}

// alike is as layer 7 says; but lists, vectors and texts never are.
func alike(a, b api.Datum) bool {
	switch a.Kind {
	case api.List, api.Vector, api.String:
		return false
	case api.Symbol:
		_, ok := match.Match(a, b, a)
		return ok
	}
	_, ok := match.Match(a, b)
	return ok
}

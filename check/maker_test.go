package check_test

import (
	"math"
	"slices"

	"tandem/api"
)

// maker makes programs that are right.
type maker struct {
	dice
	ps []api.Proto
}

// program is one of up to four protos, all heads first, so that closures may be of any of them.
func (m *maker) program() []api.Proto {
	m.ps = []api.Proto{{}}
	for range m.below(4) {
		m.ps = append(m.ps, api.Proto{Args: m.below(4), Rest: m.below(2) == 1, Free: m.below(4)})
	}
	for n := range m.ps {
		p := &m.ps[n]
		p.Consts, p.Names = voids(1+m.below(3)), slices.Repeat([]string{"x"}, 1+m.below(3))
		b := body{maker: m, p: p, depth: p.Args}
		if p.Rest {
			b.depth++
		}
		b.values(1+m.below(3), 4)
		b.end()
	}
	return m.ps
}

// body makes the code of a proto.
type body struct {
	*maker
	p     *api.Proto
	depth int
}

func (b *body) put(op, x, y, more int) {
	b.p.Code = append(b.p.Code, api.Ins{Op: op, A: x, B: y})
	b.depth += more
}

// end comes to an end, which may leave instructions behind that are not reached.
func (b *body) end() {
	if n := b.below(3); n < b.depth && b.below(2) == 0 {
		b.put(api.OpTail, n, 0, 0)
	} else {
		b.put(api.OpReturn, 0, 0, 0)
	}
	for range b.below(3) * b.below(2) {
		b.put(b.below(24), b.below(4), b.below(3), 0)
	}
}

// values push so many.
func (b *body) values(n, deep int) {
	for range n {
		b.value(deep)
	}
}

// value is code that pushes one value.
func (b *body) value(deep int) {
	if deep == 0 {
		b.simple()
		return
	}
	switch b.below(9) {
	case 0:
		b.choice(deep - 1)
	case 1:
		b.round(deep - 1)
	case 2:
		b.detour(deep - 1)
	case 3:
		n := b.below(4)
		b.values(n+1, deep-1)
		b.put([]int{api.OpCall, api.OpSlide}[b.below(2)], n, 0, -n)
	case 4:
		b.primitive(deep - 1)
	case 5:
		to := b.below(len(b.ps))
		b.values(b.ps[to].Free, deep-1)
		b.put(api.OpClosure, to, b.ps[to].Free, 1-b.ps[to].Free)
	case 6:
		b.values(2, deep-1)
		b.put(api.OpSetBox, 0, 0, -1)
	case 7:
		b.values(2, deep-1)
		if b.below(2) == 0 {
			b.put(api.OpPop, 0, 0, -1)
		} else {
			b.put(api.OpStore, b.below(b.depth-1), 0, -1)
		}
	default:
		b.value(deep - 1)
		b.put([]int{api.OpBox, api.OpUnbox, api.OpSetGlo, api.OpDefine, api.OpLoop}[b.below(5)], 0, 0, 0)
	}
}

func (b *body) simple() {
	switch n := b.below(5); {
	case n == 0 && b.p.Free > 0:
		b.put(api.OpFree, b.below(b.p.Free), 0, 1)
	case n == 1:
		b.put(api.OpGlobal, b.below(len(b.p.Names)), 0, 1)
	case n == 2 && b.depth > 0:
		b.put([]int{api.OpLocal, api.OpPick}[b.below(2)], b.below(b.depth), 0, 1)
	default:
		b.put(api.OpConst, b.below(len(b.p.Consts)), 0, 1)
	}
}

func (b *body) primitive(deep int) {
	prims := api.Prims()
	a := b.below(len(prims) - 7)
	n := prims[a].Least
	if prims[a].Most < 0 {
		n += b.below(3)
	}
	b.values(n, deep)
	b.put(api.OpPrim, a, n, 1-n)
}

// choice: one of two values; or one of them, where the other way ends.
func (b *body) choice(deep int) {
	b.value(deep)
	test := len(b.p.Code)
	b.put(api.OpFalse, 0, 0, -1)
	b.value(deep)
	over := len(b.p.Code)
	if b.below(4) == 0 {
		b.put(api.OpReturn, 0, 0, -1)
	} else {
		b.put(api.OpJump, 0, 0, -1)
	}
	b.p.Code[test].A = len(b.p.Code)
	b.value(deep)
	if b.p.Code[over].Op == api.OpJump {
		b.p.Code[over].A = len(b.p.Code)
	}
}

// round goes round till a value is false.
func (b *body) round(deep int) {
	begin := len(b.p.Code)
	b.put(api.OpLoop, 0, 0, 0)
	b.value(deep)
	test := len(b.p.Code)
	b.put(api.OpFalse, 0, 0, -1)
	b.put(api.OpJump, begin, 0, 0)
	b.p.Code[test].A = len(b.p.Code)
	b.value(deep)
}

// detour comes to a piece of code from behind it.
func (b *body) detour(deep int) {
	depth, over := b.depth, len(b.p.Code)
	b.put(api.OpJump, 0, 0, 0)
	begin := len(b.p.Code)
	b.value(deep)
	back := len(b.p.Code)
	b.put(api.OpJump, 0, 0, 0)
	b.p.Code[over].A = len(b.p.Code)
	b.depth = depth
	b.value(deep)
	b.put(api.OpPop, 0, 0, -1)
	b.put(api.OpJump, begin, 0, 1)
	b.p.Code[back].A = len(b.p.Code)
}

// number is another number in place of one, near it or at an edge.
func (m *maker) number(n int) int {
	if m.below(3) > 0 {
		return n + m.below(5) - 2
	}
	edges := []int{-1, 0, 1, 7, 21, 22, 64, 65, 84, 85, 91, 92, 4095, 4096, 4097, 65535, 65536, math.MaxInt, math.MinInt, math.MinInt + 1, math.MaxInt - 1}
	return edges[m.below(len(edges))]
}

// turn turns one thing of a program.
func (m *maker) turn(ps []api.Proto) {
	p := &ps[m.below(len(ps))]
	pc := m.below(len(p.Code) + 1)
	if pc == len(p.Code) {
		m.turnHead(p)
		return
	}
	i := &p.Code[pc]
	switch m.below(7) {
	case 0:
		i.Op = 1 + m.below(21)
	case 1:
		i.Op = m.number(i.Op)
	case 2:
		i.A = m.number(i.A)
	case 3:
		i.B = m.number(i.B)
	case 4:
		i.A = m.below(len(p.Code) + 1)
	case 5:
		*i = p.Code[m.below(len(p.Code))]
	case 6:
		p.Code = slices.Delete(p.Code, pc, pc+1+m.below(len(p.Code)-pc))
	}
}

func (m *maker) turnHead(p *api.Proto) {
	switch m.below(6) {
	case 0:
		p.Args = m.number(p.Args)
	case 1:
		p.Free = m.number(p.Free)
	case 2:
		p.Rest = !p.Rest
	case 3:
		p.Consts = p.Consts[:m.below(len(p.Consts)+1)]
	case 4:
		p.Names = p.Names[:m.below(len(p.Names)+1)]
	case 5:
		p.Code = p.Code[:m.below(len(p.Code)+1)]
	}
}

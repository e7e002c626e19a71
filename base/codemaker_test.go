package base_test

import "tandem/api"

// codeMaker makes code that is right, most of which layer 9 would not make.
type codeMaker struct {
	dice
	ps []api.Proto
}

// program is one of up to four protos, all heads first, so that closures may be of any of them.
func (m *codeMaker) program() []api.Proto {
	m.ps = []api.Proto{{}}
	for range m.below(4) {
		m.ps = append(m.ps, api.Proto{Name: "p", Args: m.below(3), Rest: m.below(3) == 0, Free: m.below(3)})
	}
	for n := range m.ps {
		p := &m.ps[n]
		p.Names = []string{"x", "y"}[:1+m.below(2)]
		for range 1 + m.below(4) {
			p.Consts = append(p.Consts, m.constant())
		}
		b := bodyMaker{codeMaker: m, p: p, depth: p.Args}
		if p.Rest {
			b.depth++
		}
		b.values(1+m.below(4), 4)
		b.end()
	}
	return m.ps
}

// constant is any, a control primitive often.
func (m *codeMaker) constant() api.Datum {
	switch m.below(9) {
	case 0, 1, 2:
		return api.Datum{Kind: api.Proc, N: 85 + m.below(7)}
	case 3:
		return api.Datum{Kind: api.Proc, N: m.below(85)}
	case 4:
		return undefined()
	case 5:
		return api.Datum{Kind: api.List, Items: []api.Datum{text("a"), whole(uint32(m.below(9)))}}
	case 6:
		return api.Datum{Kind: api.Bool, N: m.below(2)}
	case 7:
		return api.Datum{Kind: 1 + m.below(10), Text: "a", Num: api.Num{Mag: []uint32{5, 5, 5}}}
	}
	return whole(uint32(m.below(4)))
}

// bodyMaker makes the code of a proto.
type bodyMaker struct {
	*codeMaker
	p     *api.Proto
	depth int
}

func (b *bodyMaker) put(op, x, y, more int) {
	b.p.Code = append(b.p.Code, api.Ins{Op: op, A: x, B: y})
	b.depth += more
}

func (b *bodyMaker) end() {
	if n := b.below(3); n < b.depth && b.below(2) == 0 {
		b.put(api.OpTail, n, 0, 0)
	} else {
		b.put(api.OpReturn, 0, 0, 0)
	}
}

// values push so many.
func (b *bodyMaker) values(n, deep int) {
	for range n {
		b.value(deep)
	}
}

// value is code that pushes one value.
func (b *bodyMaker) value(deep int) {
	if deep == 0 {
		b.simple()
		return
	}
	switch b.below(11) {
	case 0:
		b.choice(deep - 1)
	case 1:
		b.value(deep - 1)
		b.values(2, deep-1)
		b.put(api.OpSlide, 2, 0, -2)
	case 2, 3, 4:
		n := b.below(4)
		b.values(n+1, deep-1)
		b.put(api.OpCall, n, 0, -n)
	case 5:
		b.primitive(deep - 1)
	case 6, 7:
		to := b.below(len(b.ps))
		b.values(b.ps[to].Free, deep-1)
		b.put(api.OpClosure, to, b.ps[to].Free, 1-b.ps[to].Free)
	case 8:
		b.value(deep - 1)
		b.put(api.OpBox, 0, 0, 0)
		b.value(deep - 1)
		b.put(api.OpSetBox, 0, 0, -1)
	case 9:
		b.values(2, deep-1)
		if b.below(2) == 0 {
			b.put(api.OpPop, 0, 0, -1)
		} else {
			b.put(api.OpStore, b.below(b.depth-1), 0, -1)
		}
	default:
		b.value(deep - 1)
		b.put([]int{api.OpSetGlo, api.OpDefine, api.OpDefine, api.OpLoop, api.OpBox}[b.below(5)], 0, 0, 0)
	}
}

func (b *bodyMaker) simple() {
	switch n := b.below(6); {
	case n == 0 && b.p.Free > 0:
		b.put(api.OpFree, b.below(b.p.Free), 0, 1)
	case n == 1:
		b.put(api.OpGlobal, b.below(len(b.p.Names)), 0, 1)
	case n == 2 && b.depth > 0:
		b.put([]int{api.OpLocal, api.OpPick}[b.below(2)], b.below(b.depth), 0, 1)
	case n == 3 && b.below(4) == 0:
		b.put(api.OpConst, b.below(len(b.p.Consts)), 0, 1)
		b.put(api.OpBox, 0, 0, 0)
		b.put(api.OpUnbox, 0, 0, 0)
	default:
		b.put(api.OpConst, b.below(len(b.p.Consts)), 0, 1)
	}
}

func (b *bodyMaker) primitive(deep int) {
	prims := api.Prims()
	a := b.below(len(prims) - 7)
	n := prims[a].Least
	if prims[a].Most < 0 {
		n += b.below(3)
	}
	b.values(n, deep)
	b.put(api.OpPrim, a, n, 1-n)
}

// choice is one of two values.
func (b *bodyMaker) choice(deep int) {
	b.value(deep)
	test := len(b.p.Code)
	b.put(api.OpFalse, 0, 0, -1)
	b.value(deep)
	over := len(b.p.Code)
	b.put(api.OpJump, 0, 0, -1)
	b.p.Code[test].A = len(b.p.Code)
	b.value(deep)
	b.p.Code[over].A = len(b.p.Code)
}

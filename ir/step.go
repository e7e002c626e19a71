package ir

import (
	"tandem/api"
	"tandem/prim"
)

// do writes code for an instruction that the path can go on behind, or ends by.
func (p *path) do(in api.Ins) {
	switch in.Op {
	case api.OpConst:
		p.constant(in.A)
	case api.OpLocal, api.OpPick:
		p.push(p.slots[p.base+in.A])
	case api.OpFree:
		p.free(in.A)
	case api.OpGlobal:
		p.global(in.A)
	case api.OpSetGlo, api.OpDefine:
		p.setGlobal(in.A)
	case api.OpBox:
		p.box()
	case api.OpUnbox:
		p.unbox()
	case api.OpSetBox:
		p.setBox()
	case api.OpPop:
		p.drop(1)
	case api.OpSlide:
		p.slide(in.A)
	case api.OpStore:
		p.store(in.A)
	case api.OpPrim:
		p.primitive(in)
	case api.OpJump:
		p.next = in.A
	case api.OpFalse:
		p.choose(in.A)
	case api.OpCall:
		p.enter(p.calls[p.pc], in.A)
	case api.OpTail:
		p.tail(in.A)
	case api.OpReturn:
		p.giveBack()
	}
}

// result is a new value on the stack, in the place of so many things; its register is answered.
func (p *path) result(popped int) int {
	r := p.fresh(asValue)
	p.drop(popped)
	p.push(p.inRegister(asValue, r))
	return r
}

// last is the thing that was pushed last.
func (p *path) last() *thing { return &p.slots[p.top(0)] }

// constant pushes a constant. An object is the proto's own, which all that push it share.
func (p *path) constant(n int) {
	if l, ok := literalOf(p.protos[p.proto].Consts[n]); ok {
		p.push(p.ofLiteral(l))
		return
	}
	p.put(api.RIns{Op: api.RConst, A: p.result(0), B: n, C: p.proto + 1})
	p.last().isOther = true
}

// void pushes what an instruction comes to that is done for its effect. Behind that, guards may no longer go to where they went ahead of it.
func (p *path) void(popped int) {
	p.drop(popped)
	p.push(p.ofLiteral(literal{kind: api.Void}))
	p.exit = none
}

func (p *path) free(n int) {
	if p.isInlined() {
		callee := p.value(p.base - 1)
		p.put(api.RIns{Op: api.RFreeOf, A: p.result(0), B: callee, C: n})
		return
	}
	p.put(api.RIns{Op: api.RFree, A: p.result(0), B: n})
}

// nameOf is the code's own number of a name of the proto.
func (p *path) nameOf(n int) int { return p.names.of(p.protos[p.proto].Names[n]) }

func (p *path) global(n int) {
	e := p.guard()
	p.put(api.RIns{Op: api.RGlobal, A: p.result(0), B: p.nameOf(n), E: e})
}

// setGlobal sets, or defines, a global that has a value already. If it has none, the exit leaves it to the baseline machine to define it, or to raise.
func (p *path) setGlobal(n int) {
	p.put(api.RIns{Op: api.RSetGlo, A: p.value(p.top(0)), B: p.nameOf(n), E: p.guard()})
	p.void(1)
}

func (p *path) box() {
	v := p.value(p.top(0))
	p.put(api.RIns{Op: api.RNew, A: p.result(1), B: v})
	p.last().isBox, p.last().isOther = true, true
}

func (p *path) unbox() {
	box, e := p.value(p.top(0)), p.guard()
	p.put(api.RIns{Op: api.RLoad, A: p.result(1), B: box, E: e})
}

// setBox puts a value into a box. Nothing but RLoad tells whether a thing is a box at all.
func (p *path) setBox() {
	to, v := p.top(1), p.value(p.top(0))
	box := p.value(to)
	if !p.slots[to].isBox {
		p.put(api.RIns{Op: api.RLoad, A: p.fresh(asValue), B: box, E: p.guard()})
		p.learnBox(p.slots[to].id)
	}
	p.put(api.RIns{Op: api.RSave, A: box, B: v})
	p.void(2)
}

func (p *path) learnBox(id int) {
	for i := range p.slots {
		if p.slots[i].id == id {
			p.slots[i].isBox, p.slots[i].isOther = true, true
		}
	}
}

func (p *path) slide(n int) {
	t := *p.last()
	p.drop(n + 1)
	p.push(t)
}

func (p *path) store(slot int) {
	t := *p.last()
	p.drop(1)
	p.slots[p.base+slot] = t
}

func (p *path) choose(isFalse int) {
	condition := p.value(p.top(0))
	p.drop(1)
	p.split(condition, isFalse, p.pc+1)
}

// enter goes on in the code of an inlined procedure. What is called stays below its slots: it is the closure of its frame.
func (p *path) enter(in *builder, args int) {
	callee := p.top(args)
	p.put(api.RIns{Op: api.RIs, A: p.value(callee), B: in.proto, E: p.guard()})
	if called := p.protos[in.proto]; called.Rest {
		p.perform(prim.Number("list"), args-called.Args)
	}
	in.base = callee + 1
	p.builder, p.next = in, 0
}

// tail ends the code by a call.
func (p *path) tail(args int) {
	p.put(api.RIns{Op: api.RTail, A: p.inRow(args + 1), B: args})
	p.isOver = true
}

// giveBack returns, from an inlined procedure to the one around it.
func (p *path) giveBack() {
	if !p.isInlined() {
		p.put(api.RIns{Op: api.RReturn, A: p.value(p.top(0))})
		p.isOver = true
		return
	}
	t := *p.last()
	p.slots = append(p.slots[:p.base-1], t)
	p.builder, p.next = p.builder.builder, p.at+1
}

package ir

import (
	"tandem/api"
	"tandem/prim"
)

// deed is an instruction of raw numbers that does what a primitive of two fixnums does.
type deed struct {
	op        int
	isSwapped bool // the second one comes first
	isNegated bool // false is answered for true, and the other way round
}

// deedOf is what is done in the place of a primitive; false, if there is nothing. Only two numbers go by one instruction: of more, a part of the sum may be no fixnum where all of it is one.
func deedOf(name string) (deed, bool) {
	switch name {
	case "+":
		return deed{op: api.RAdd}, true
	case "-":
		return deed{op: api.RSub}, true
	case "*":
		return deed{op: api.RMul}, true
	case "=":
		return deed{op: api.RSame}, true
	case "<":
		return deed{op: api.RLess}, true
	case ">":
		return deed{op: api.RLess, isSwapped: true}, true
	case "<=":
		return deed{op: api.RLess, isSwapped: true, isNegated: true}, true
	case ">=":
		return deed{op: api.RLess, isNegated: true}, true
	}
	return deed{}, false
}

// hasEffect tells whether a primitive does something that can be told, beside what it comes to.
func hasEffect(name string) bool {
	switch name {
	case "set-car!", "set-cdr!", "vector-set!", "vector-fill!", "write", "display", "newline", "write-char":
		return true
	}
	return false
}

func (p *path) primitive(in api.Ins) {
	name := p.prims[in.A].Name
	d, ok := deedOf(name)
	switch {
	case ok && in.B == 2 && p.areFixnums():
		p.calculate(d)
	case name == "car":
		p.part(api.RCar)
	case name == "cdr":
		p.part(api.RCdr)
	default:
		p.perform(in.A, in.B)
		if hasEffect(name) {
			p.exit = none
		}
	}
}

// areFixnums tells whether the two things that were pushed last are worth being taken for fixnums: numbers alone were seen, and nothing else is known of them.
func (p *path) areFixnums() bool {
	seen := p.seen.At(p.proto, p.pc).Mask
	return seen == 1<<api.Int && !p.slots[p.top(1)].isOther && !p.slots[p.top(0)].isOther
}

func (p *path) calculate(d deed) {
	a, b := p.number(p.top(1)), p.number(p.top(0))
	if d.isSwapped {
		a, b = b, a
	}
	if d.op == api.RLess || d.op == api.RSame {
		p.compare(d, a, b)
		return
	}
	r, e := p.fresh(asRaw), p.guard()
	p.put(api.RIns{Op: d.op, A: r, B: a, C: b, E: e})
	p.drop(2)
	p.push(p.inRegister(asRaw, r))
}

// compare compares raw numbers. What is negated needs no instruction, where it is only a test.
func (p *path) compare(d deed, a, b int) {
	r := p.fresh(asValue)
	p.put(api.RIns{Op: d.op, A: r, B: a, C: b})
	test := p.pc + 1
	switch {
	case d.isNegated && p.bytecode[test].Op == api.OpFalse && p.places[test].merge == nil:
		p.drop(2)
		p.split(r, test+1, p.bytecode[test].A)
		return
	case d.isNegated:
		not := p.fresh(asValue)
		p.put(api.RIns{Op: api.RPrim, A: not, B: prim.Number("not"), C: r, D: 1, E: p.guard()})
		r = not
	}
	p.drop(2)
	p.push(p.inRegister(asValue, r))
	p.last().isOther = true
}

// part is the car or cdr.
func (p *path) part(op int) {
	pair, e := p.value(p.top(0)), p.guard()
	p.put(api.RIns{Op: op, A: p.result(1), B: pair, E: e})
}

// perform puts the primitive of that number, of so many things that were pushed last.
func (p *path) perform(n, args int) {
	first, e := p.inRow(args), p.guard()
	p.put(api.RIns{Op: api.RPrim, A: p.result(args), B: n, C: first, D: args, E: e})
}

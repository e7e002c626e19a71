package emit

import "tandem/api"

// place is what follows a form: in a tail place the frame's end; in a tail place of a loop's body that loop may begin again.
type place struct {
	tail bool
	loop *loop // nil, if there is none
}

// form writes a form, and tells whether it goes on: whether what is put behind it is ever reached, as far as the form itself tells. Behind it the frame counts as having one slot more, however the form ends.
func (w *writer) form(c *api.Core, at place) bool {
	if w.long {
		return true
	}
	depth := w.depth
	goesOn := w.compound(c, at)
	w.depth = depth + 1
	return goesOn
}

func (w *writer) compound(c *api.Core, at place) bool {
	switch c.Kind {
	case api.CIf:
		return w.choice(c, at)
	case api.CSeq:
		return w.sequence(c.Subs, at)
	case api.CLet:
		return w.let(c, at)
	case api.CRec:
		return w.rec(c, at)
	case api.CLoop:
		return w.turns(c, at)
	case api.CAgain:
		w.again(c, at.loop)
		return false
	case api.CCall:
		w.call(c, at)
		return true
	}
	w.simple(c)
	w.giveBack(at)
	return true
}

// giveBack ends the frame in a tail place.
func (w *writer) giveBack(at place) {
	if at.tail {
		w.put(api.Ins{Op: api.OpReturn})
	}
}

// simple writes a form that pushes a value, whatever its place.
func (w *writer) simple(c *api.Core) {
	switch c.Kind {
	case api.CConst:
		w.constant(c.D[0])
	case api.CPrim:
		w.constant(api.Datum{Kind: api.Proc, N: c.N})
	case api.CLocal:
		w.push(c.N)
	case api.CGlobal:
		w.put(api.Ins{Op: api.OpGlobal, A: w.names.of(c.Name)})
	case api.CLambda:
		w.lambda(c)
	case api.CSetLoc:
		w.pushAsItIs(c.N)
		w.values(c.Subs)
		w.put(api.Ins{Op: api.OpSetBox})
	case api.CSetGlo:
		w.values(c.Subs)
		w.put(api.Ins{Op: api.OpSetGlo, A: w.names.of(c.Name)})
	case api.CDefine:
		w.values(c.Subs)
		w.put(api.Ins{Op: api.OpDefine, A: w.names.of(c.Name)})
	}
}

// values writes forms whose values are wanted, in order.
func (w *writer) values(forms []api.Core) {
	for i := range forms {
		w.form(&forms[i], place{})
	}
}

func (w *writer) choice(c *api.Core, at place) bool {
	w.values(c.Subs[:1])
	toElse := w.jump(api.OpFalse)
	depth := w.depth
	then := w.form(&c.Subs[1], at)
	w.depth = depth
	if at.tail || !then {
		w.land(toElse)
		return w.form(&c.Subs[2], at) || then
	}
	behind := w.jump(api.OpJump)
	w.land(toElse)
	w.form(&c.Subs[2], at)
	w.land(behind)
	return true
}

// sequence writes forms, one at least, of which the last one's value is wanted.
func (w *writer) sequence(forms []api.Core, at place) bool {
	last := len(forms) - 1
	for i := range last {
		depth := w.depth
		if w.form(&forms[i], place{}) {
			w.put(api.Ins{Op: api.OpPop})
		}
		w.depth = depth
	}
	return w.form(&forms[last], at)
}

func (w *writer) call(c *api.Core, at place) {
	operator, operands := &c.Subs[0], c.Subs[1:]
	n := len(operands)
	w.atMost(api.MaxArgs, n)
	switch {
	case w.isDirect(operator, n):
		w.values(operands)
		w.put(api.Ins{Op: api.OpPrim, A: operator.N, B: n})
		w.giveBack(at)
	case at.tail:
		w.values(c.Subs)
		w.put(api.Ins{Op: api.OpTail, A: n})
	default:
		w.values(c.Subs)
		w.put(api.Ins{Op: api.OpCall, A: n})
	}
}

// controls is how many control primitives there are: the last ones of all.
const controls = 7

// isDirect tells whether an operator is a primitive that an instruction does, of that many operands.
func (w *writer) isDirect(operator *api.Core, n int) bool {
	if operator.Kind != api.CPrim || operator.N >= len(w.prims)-controls {
		return false
	}
	p := w.prims[operator.N]
	return n >= p.Least && (p.Most < 0 || n <= p.Most)
}

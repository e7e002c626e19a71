package fold

import (
	"tandem/api"
	"tandem/num"
)

// outcome is what an instruction puts into its register, and where it goes on, by what is known of the registers that it reads.
func (s *study) outcome(in api.RIns, held ...thing) (thing, course) {
	switch in.Op {
	case api.RJump:
		return thing{}, aside
	case api.RIf:
		return thing{}, choice(held[0])
	case api.RReturn, api.RTail, api.RExit:
		return thing{}, 0
	case api.RConst:
		return s.constant(in.B, in.C), onward
	case api.RRaw:
		return number(aRaw, s.Raws[in.B]), onward
	case api.RMove:
		return held[0], onward
	case api.RBox:
		return boxed(held[0]), onward
	case api.RLess, api.RSame:
		return compared(in.Op, held[0], held[1]), onward
	case api.RNew:
		return someOf(aBox), onward
	}
	return s.guarded(in, held...)
}

// guarded is the outcome of an instruction that may go to its exit. One that always does goes on nowhere.
func (s *study) guarded(in api.RIns, held ...thing) (thing, course) {
	t, isOut := anyThing(), false
	switch in.Op {
	case api.RUnbox:
		t, isOut = unboxed(held[0]), held[0].isOther(api.Int)
	case api.RAdd, api.RSub, api.RMul:
		t, isOut = calculated(in.Op, held[0], held[1])
	case api.RCar, api.RCdr:
		isOut = held[0].isOther(aConstant)
	case api.RIs:
		isOut = held[0].isOther()
	case api.RLoad:
		isOut = held[0].isOther(aBox)
	case api.RPrim:
		if in.B == s.not {
			t = negated(held[0])
		}
	}
	if isOut {
		return thing{}, 0
	}
	return t, onward
}

// choice is where an RIf goes on.
func choice(t thing) course {
	switch {
	case t.isTrue():
		return onward
	case t == boolean(false):
		return aside
	}
	return onward | aside
}

// constant is what RConst puts into its register.
func (s *study) constant(n, owner int) thing {
	if owner == 0 {
		return literal(s.Consts[n])
	}
	if t, ok := simple(s.protos[owner-1].Consts[n]); ok {
		return t
	}
	return thing{how: exact, kind: aConstant, n: int64(n), owner: owner}
}

func boxed(t thing) thing {
	if t.is(exact, aRaw) {
		return number(api.Int, t.n)
	}
	return someOf(api.Int)
}

func unboxed(t thing) thing {
	if t.is(exact, api.Int) {
		return number(aRaw, t.n)
	}
	return anyThing()
}

// calculated is what raw numbers come to, and whether that is no fixnum for sure.
func calculated(op int, a, b thing) (thing, bool) {
	if !a.is(exact, aRaw) || !b.is(exact, aRaw) {
		return anyThing(), false
	}
	n, ok := num.Small(result(op, num.Of(a.n), num.Of(b.n)))
	return number(aRaw, n), !ok
}

func result(op int, a, b api.Num) api.Num {
	switch op {
	case api.RAdd:
		return num.Add(a, b)
	case api.RSub:
		return num.Sub(a, b)
	}
	return num.Mul(a, b)
}

func compared(op int, a, b thing) thing {
	switch {
	case !a.is(exact, aRaw) || !b.is(exact, aRaw):
		return someOf(api.Bool)
	case op == api.RLess:
		return boolean(a.n < b.n)
	}
	return boolean(a.n == b.n)
}

// negated is true of what is false, and false of all else.
func negated(t thing) thing {
	switch {
	case t.isTrue():
		return boolean(false)
	case t == boolean(false):
		return boolean(true)
	}
	return someOf(api.Bool)
}

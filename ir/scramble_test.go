package ir_test

import (
	"tandem/api"
	"tandem/check"
)

// scrambler makes code that is right, but nothing that layer 9 would make: jumps go anywhere where the frame is as deep.
type scrambler struct {
	dice
	ps []api.Proto
	p  *api.Proto
	// depth is that ahead of the next instruction; at is that ahead of each one.
	depth int
	at    []int
}

// program is some protos whose heads come first, so that closures may be of any of them; the last two are the globals' procedures. Jumps are settled last: they may lead to instructions that stand further on.
func (s *scrambler) program() []api.Proto {
	for {
		s.ps = []api.Proto{{}}
		for range 1 + s.below(3) {
			s.ps = append(s.ps, api.Proto{Name: "p", Args: s.below(4), Rest: s.below(5) == 0, Free: s.below(3)})
		}
		for n := range s.ps {
			s.head(&s.ps[n])
			s.body(&s.ps[n])
		}
		if _, _, e := check.Program(s.ps); e == api.OK {
			return s.ps
		}
	}
}

// head is what stands ahead of the code; the program's defines the globals.
func (s *scrambler) head(p *api.Proto) {
	s.p, s.depth, s.at = p, p.Args, nil
	if p.Rest {
		s.depth++
	}
	p.Names = []string{"x", "y"}
	for range 5 {
		p.Consts = append(p.Consts, s.constant())
	}
	for name := range len(p.Names) {
		if p == &s.ps[0] && s.below(9) > 0 {
			s.closure(s.global(name))
			s.put(api.OpDefine, name, 0, 0)
			s.put(api.OpPop, 0, 0, -1)
		}
	}
}

// global is the procedure that a global name is first defined as.
func (s *scrambler) global(name int) int { return max(1, len(s.ps)-1-name) }

func (s *scrambler) body(p *api.Proto) {
	for range 5 + s.below(40) {
		s.instruction()
	}
	s.value()
	s.put(api.OpReturn, 0, 0, 0)
	for pc, in := range p.Code {
		switch in.Op {
		case api.OpJump:
			p.Code[pc].A = s.target(pc, s.at[pc])
		case api.OpFalse:
			p.Code[pc].A = s.target(pc, s.at[pc]-1)
		}
	}
}

// target is a place where the frame is that deep; most often one further on, so that code comes to an end.
func (s *scrambler) target(from, depth int) int {
	var all []int
	for pc, d := range s.at {
		if d == depth && (pc > from || s.below(3) == 0) {
			all = append(all, pc)
		}
	}
	if len(all) == 0 {
		return from // the depth parts there, or it is a loop
	}
	return pick(&s.dice, all...)
}

func (s *scrambler) put(op, a, b, more int) {
	s.p.Code, s.at = append(s.p.Code, api.Ins{Op: op, A: a, B: b}), append(s.at, s.depth)
	s.depth += more
}

// constant is any that may be, numbers often.
func (s *scrambler) constant() api.Datum {
	switch s.below(30) {
	case 0:
		return api.Datum{Kind: api.Proc, N: s.below(92)}
	case 1:
		return api.Datum{Kind: api.Symbol, N: -1}
	case 2:
		return api.Datum{Kind: api.List, Items: []api.Datum{whole(1), whole(2)}}
	case 3:
		return api.Datum{Kind: api.Bool, N: s.below(2), Text: "beside"}
	case 4:
		return pick(&s.dice, api.Datum{Kind: api.Symbol, Text: "a"}, api.Datum{Kind: api.Symbol, Text: "a", N: 4}, api.Datum{Kind: api.List}, api.Datum{Kind: api.Void, N: 3}, api.Datum{Kind: api.Char, N: 65}, api.Datum{Kind: api.String, Text: "t"}, api.Datum{Kind: api.Vector, Items: []api.Datum{{Kind: api.Void}}})
	case 5: // refused, when it is pushed
		return pick(&s.dice, api.Datum{Kind: api.Cond}, api.Datum{}, api.Datum{Kind: api.Proc, Text: "x"}, api.Datum{Kind: api.Bool, N: 7}, api.Datum{Kind: api.List, Rest: []api.Datum{{Kind: api.Void}}}, api.Datum{Kind: api.Vector, Items: []api.Datum{{Kind: api.Char, N: 256}}}, whole(5))
	case 6:
		return pick(&s.dice, whole(1<<61-1), whole(-1<<61), whole(1<<61), whole(-1<<61-1), api.Datum{Kind: api.Int, Num: api.Num{Neg: true, Mag: []uint32{0, 0}}})
	}
	return whole(int64(s.below(6)) - 1)
}

// value pushes something.
func (s *scrambler) value() {
	switch n := s.below(18); {
	case n < 2 && s.p.Free > 0:
		s.put(api.OpFree, s.below(s.p.Free), 0, 1)
	case n == 2:
		s.put(api.OpGlobal, s.below(2), 0, 1)
	case n < 12 && s.depth > 0:
		s.put(pick(&s.dice, api.OpLocal, api.OpPick), s.below(s.depth), 0, 1)
	default:
		s.put(api.OpConst, s.below(len(s.p.Consts)), 0, 1)
	}
}

// instruction is any that the frame is deep enough for.
func (s *scrambler) instruction() {
	n := s.below(30)
	if s.depth < 2 || n < 9 {
		s.value()
		return
	}
	switch n {
	case 9, 10, 11, 12, 13:
		s.put(api.OpPrim, primitive(pick(&s.dice, "+", "-", "*", "+", "=", "<", ">", "<=", ">=")), 2, -1)
	case 14:
		s.anyPrimitive()
	case 15:
		s.put(api.OpBox, 0, 0, 0)
	case 16:
		s.put(api.OpUnbox, 0, 0, 0)
	case 17:
		s.put(api.OpSetBox, 0, 0, -1)
	case 18:
		s.put(pick(&s.dice, api.OpSetGlo, api.OpDefine, api.OpDefine), s.below(2), 0, 0)
	case 19, 20:
		s.call()
	case 21:
		s.closure(s.below(len(s.ps)))
	case 22:
		s.put(api.OpPop, 0, 0, -1)
	case 23:
		less := s.below(min(s.depth, 3))
		s.put(api.OpSlide, less, 0, -less)
	case 24, 25:
		s.put(api.OpStore, s.below(s.depth-1), 0, -1)
	default:
		s.turn(n)
	}
}

// turn may go elsewhere.
func (s *scrambler) turn(n int) {
	switch n {
	case 26:
		s.put(api.OpLoop, 0, 0, 0)
	case 27, 28:
		s.put(api.OpFalse, 0, 0, -1)
	case 29:
		switch s.below(4) {
		case 0:
			s.put(api.OpReturn, 0, 0, 0)
		case 1:
			s.put(api.OpTail, s.below(min(s.depth, 3)), 0, 0)
		default:
			s.put(api.OpJump, 0, 0, 0)
		}
	}
}

func (s *scrambler) anyPrimitive() {
	prims := api.Prims()
	n := s.below(len(prims) - 7)
	args := max(prims[n].Least, min(s.below(4), prims[n].Most))
	if prims[n].Most < 0 {
		args = max(prims[n].Least, s.below(4))
	}
	for s.depth < args {
		s.value()
	}
	s.put(api.OpPrim, n, args, 1-args)
}

// call calls a global, most often with as many arguments as it takes; or anything.
func (s *scrambler) call() {
	if s.below(4) == 0 {
		args := s.below(min(s.depth, 4))
		s.put(api.OpCall, args, 0, -args)
		return
	}
	name := s.below(2)
	args := s.ps[s.global(name)].Args
	if s.below(4) == 0 {
		args += s.below(3)
	}
	s.put(api.OpGlobal, name, 0, 1)
	for range args {
		s.value()
	}
	s.put(api.OpCall, args, 0, -args)
}

func (s *scrambler) closure(to int) {
	for s.depth < s.ps[to].Free {
		s.value()
	}
	s.put(api.OpClosure, to, s.ps[to].Free, 1-s.ps[to].Free)
}

package ir

import (
	"slices"

	"tandem/api"
	"tandem/check"
	"tandem/prim"
)

// Bounds of fixnums.
const (
	leastFixnum = -1 << 61
	mostFixnum  = 1<<61 - 1
)

// Sound tells whether code is well made.
func Sound(ps []api.Proto, c api.Code) bool {
	depths, ok := depthsFrom(ps, c.Proto, c.Entry)
	if !ok || depths[c.Entry] > c.Regs || c.Regs > most || c.Slots < 0 || c.Slots > most {
		return false
	}
	s := sounder{Code: c, protos: ps, prims: api.Prims(), operands: operands(), depths: map[int][]int{c.Proto: depths}}
	return s.isCode() && s.areMaps() && all(c.Exits, s.isExit) && all(c.Consts, isOwn) && all(c.Raws, isFixnum)
}

func all[T any](list []T, is func(T) bool) bool {
	return !slices.ContainsFunc(list, func(x T) bool { return !is(x) })
}

func isFixnum(n int64) bool { return n >= leastFixnum && n <= mostFixnum }

// isOwn tells whether a constant may be the code's own: a literal, with nothing beside what it is.
func isOwn(d api.Datum) bool {
	l, ok := literalOf(d)
	bare := l.datum()
	return ok && d.N == bare.N && d.Text == bare.Text && d.Num.Neg == bare.Num.Neg &&
		slices.Equal(d.Num.Mag, bare.Num.Mag) && len(d.Items) == 0 && len(d.Rest) == 0
}

// sounder knows what code is held against.
type sounder struct {
	api.Code
	protos   []api.Proto
	prims    []api.Prim
	operands [api.RSetGlo + 1][5]operand
	depths   map[int][]int // of the protos that exits name
}

// isCode tells whether all instructions are right, and none goes on behind the last one.
func (s *sounder) isCode() bool {
	if len(s.Ins) == 0 || !all(s.Ins, s.isRight) {
		return false
	}
	switch s.Ins[len(s.Ins)-1].Op {
	case api.RJump, api.RReturn, api.RTail, api.RExit:
		return true
	}
	return false
}

func (s *sounder) isRight(in api.RIns) bool {
	if in.Op < api.RConst || in.Op > api.RSetGlo {
		return false
	}
	for i, n := range [...]int{in.A, in.B, in.C, in.D, in.E} {
		if !s.isThere(s.operands[in.Op][i], n) {
			return false
		}
	}
	return s.fits(in)
}

// isThere tells whether there is what an operand names, as far as that hangs on the operand alone.
func (s *sounder) isThere(o operand, n int) bool {
	switch o {
	case nothing:
		return n == 0
	case aRegister:
		return isBelow(n, s.Regs)
	case aSlot:
		return isBelow(n, s.Slots)
	case aRaw:
		return isBelow(n, len(s.Raws))
	case aName:
		return isBelow(n, len(s.Names))
	case aProto:
		return isBelow(n, len(s.protos))
	case aPlace:
		return isBelow(n, len(s.Ins))
	case anExit:
		return isBelow(n, len(s.Exits))
	case anOwner:
		return isBelow(n, len(s.protos)+1)
	case ownValue:
		return isBelow(n, s.protos[s.Proto].Free)
	case anyValue:
		return isBelow(n, api.MaxStack)
	}
	return true
}

// fits tells whether operands that hang on each other are right.
func (s *sounder) fits(in api.RIns) bool {
	switch in.Op {
	case api.RConst:
		if in.C > 0 {
			return isBelow(in.B, len(s.protos[in.C-1].Consts))
		}
		return isBelow(in.B, len(s.Consts))
	case api.RPrim:
		return s.takes(in.B, in.D) && s.isRow(in.C, in.D)
	case api.RTail:
		return s.isRow(in.A+1, in.B)
	}
	return true
}

// takes tells whether a primitive that is no control primitive takes so many values.
func (s *sounder) takes(n, args int) bool {
	if !isBelow(n, len(s.prims)) || prim.Control(n) {
		return false
	}
	p := s.prims[n]
	return args >= p.Least && (args <= p.Most || p.Most < 0)
}

// isRow tells whether so many registers stand in a row. (Of none, the first one may be just behind the last register.)
func (s *sounder) isRow(first, n int) bool {
	return first >= 0 && n >= 0 && n <= s.Regs-first
}

// areMaps tells whether there is no map, or one for each instruction.
func (s *sounder) areMaps() bool {
	return len(s.Maps) == 0 || len(s.Maps) == len(s.Ins) && all(s.Maps, s.isMap)
}

func (s *sounder) isMap(registers []int) bool {
	last := none
	for _, r := range registers {
		if r <= last || r >= s.Regs {
			return false
		}
		last = r
	}
	return true
}

func (s *sounder) isExit(e api.Exit) bool {
	last := len(e.Frames) - 1
	for i, f := range e.Frames {
		if !s.isFrame(f, i == last) {
			return false
		}
	}
	return last >= 0 && e.Frames[0].Proto == s.Proto
}

// isFrame tells whether a frame of an exit is right. One that is not the innermost stands behind a call, and lacks what that comes to.
func (s *sounder) isFrame(f api.Frame, isInnermost bool) bool {
	depths := s.depthsOf(f.Proto)
	if !isBelow(f.Pc, len(depths)) || depths[f.Pc] < 0 {
		return false
	}
	slots := depths[f.Pc]
	if !isInnermost {
		if f.Pc == 0 || s.protos[f.Proto].Code[f.Pc-1].Op != api.OpCall {
			return false
		}
		slots--
	}
	return len(f.Slots) == slots && s.isLoc(f.Self) && all(f.Slots, s.isLoc)
}

// depthsOf are check's Depths of a proto, asked for once.
func (s *sounder) depthsOf(proto int) []int {
	d, ok := s.depths[proto]
	if !ok {
		d = check.Depths(s.protos, proto)
		s.depths[proto] = d
	}
	return d
}

func (s *sounder) isLoc(l api.Loc) bool {
	switch l.Kind {
	case api.InReg, api.InRaw:
		return isBelow(l.N, s.Regs)
	case api.InConst:
		return isBelow(l.N, len(s.Consts))
	case api.InSelf:
		return l.N == 0
	case api.InSlot, api.RawSlot:
		return isBelow(l.N, s.Slots)
	}
	return false
}

package check

import "tandem/api"

// found is what is found of a proto.
type found struct {
	api.Proto
	*checker
	number int
	depths []int // at each instruction; -1, as long as it is not reached
	todo   places
}

func (c *checker) find(n int) *found {
	return &found{Proto: c.protos[n], checker: c, number: n}
}

// walk goes through the instructions that are reached, and tells the first one that is wrong. (Each is put on the list once, so there are no more turns than instructions.)
func (f *found) walk() (int, api.Errno) {
	if !f.headed(f.number) {
		return 0, api.ErrIndex
	}
	f.begin()
	for range len(f.Code) {
		if len(f.todo) == 0 {
			break
		}
		pc := f.todo.take()
		if e := f.look(pc); e != api.OK {
			return pc, e
		}
	}
	return 0, api.OK
}

func (f *found) begin() {
	f.depths = make([]int, len(f.Code))
	for pc := range len(f.Code) {
		f.depths[pc] = -1
	}
	depth := f.Args
	if f.Rest {
		depth++
	}
	f.reach(0, depth)
}

// look tells what is wrong with an instruction that is reached; if nothing is, those that it goes on to are reached too.
func (f *found) look(pc int) api.Errno {
	i := f.Code[pc]
	if e := f.wrongOperands(i); e != api.OK {
		return e
	}
	n := f.needs[i.Op]
	left := f.depths[pc] - n.popped(i)
	switch {
	case left < 0:
		return api.ErrStack
	case n.a == aSlot && !isWithin(i.A, 0, left-1):
		return api.ErrIndex
	case left+n.pushes > api.MaxStack:
		return api.ErrStack
	}
	return f.goOn(pc, left+n.pushes)
}

// goOn reaches the instructions that one goes on to. Whether they are there is asked of all of them ahead of any depth, so that a way out of the code is told though the other way parts in depth.
func (f *found) goOn(pc, depth int) api.Errno {
	ways := f.ways(pc)
	for _, to := range ways {
		if !isWithin(to, 0, len(f.Code)-1) {
			return api.ErrJump
		}
	}
	for _, to := range ways {
		if !f.reach(to, depth) {
			return api.ErrStack
		}
	}
	return api.OK
}

// ways are the places that an instruction goes on to, the next one ahead of a jump's.
func (f *found) ways(pc int) []int {
	i := f.Code[pc]
	n := f.needs[i.Op]
	var ways []int
	if !n.ends {
		ways = append(ways, pc+1)
	}
	if n.a == aPlace {
		ways = append(ways, i.A)
	}
	return ways
}

// reach comes to an instruction with a depth; false, if another one was found there ahead.
func (f *found) reach(pc, depth int) bool {
	if f.depths[pc] < 0 {
		f.depths[pc] = depth
		f.todo.put(pc)
	}
	return f.depths[pc] == depth
}

// wrongOperands tells what is wrong with an instruction, whatever the frame is.
func (f *found) wrongOperands(i api.Ins) api.Errno {
	if !isWithin(i.Op, api.OpConst, api.OpPick) {
		return api.ErrCode
	}
	n := f.needs[i.Op]
	switch {
	case n.a == nothing && i.A != 0 || n.b == nothing && i.B != 0:
		return api.ErrCode
	case !f.isThere(n.a, i.A) || !f.isThere(n.b, i.B):
		return api.ErrIndex
	case n.a == aProto && f.protos[i.A].Free != i.B:
		return api.ErrKind
	case n.a == aPrimitive && !f.takes(i.A, i.B):
		return api.ErrKind
	}
	return api.OK
}

// isThere tells whether there is what an operand numbers or counts, as far as that hangs on the operand alone.
func (f *found) isThere(o operand, number int) bool {
	switch o {
	case aConstant:
		return isWithin(number, 0, len(f.Consts)-1)
	case aValue:
		return isWithin(number, 0, f.Free-1)
	case aName:
		return isWithin(number, 0, len(f.Names)-1)
	case aProto:
		return isWithin(number, 0, len(f.protos)-1)
	case aPrimitive:
		return isWithin(number, 0, len(f.prims)-1)
	case argCount:
		return isWithin(number, 0, api.MaxArgs)
	case slotCount:
		return isWithin(number, 0, api.MaxStack)
	}
	return true
}

package check

import "tandem/api"

// operand is what an operand of an instruction stands for: the number of a thing, or how many values more are popped.
type operand int

const (
	nothing operand = iota // it is 0
	aConstant
	aSlot
	aValue // of the closure
	aName
	aProto
	aPrimitive
	aPlace     // where the instruction may go on
	argCount   // as many as a call may have
	slotCount  // as many as a frame may have
	takenCount // as many as the primitive takes
)

// need is what an instruction wants of its operands and of the frame.
type need struct {
	a, b   operand
	pops   int  // beside what an operand counts
	pushes int  // behind all pops
	ends   bool // the next instruction does not follow
}

// needs are the needs of all instructions, by their Op.
func needs() [api.OpPick + 1]need {
	return [...]need{
		api.OpConst:   {a: aConstant, pushes: 1},
		api.OpLocal:   {a: aSlot, pushes: 1},
		api.OpFree:    {a: aValue, pushes: 1},
		api.OpGlobal:  {a: aName, pushes: 1},
		api.OpSetGlo:  {a: aName, pops: 1, pushes: 1},
		api.OpDefine:  {a: aName, pops: 1, pushes: 1},
		api.OpBox:     {pops: 1, pushes: 1},
		api.OpUnbox:   {pops: 1, pushes: 1},
		api.OpSetBox:  {pops: 2, pushes: 1},
		api.OpClosure: {a: aProto, b: argCount, pushes: 1},
		api.OpCall:    {a: argCount, pops: 1, pushes: 1},
		api.OpTail:    {a: argCount, pops: 1, ends: true},
		api.OpReturn:  {pops: 1, ends: true},
		api.OpJump:    {a: aPlace, ends: true},
		api.OpFalse:   {a: aPlace, pops: 1},
		api.OpPrim:    {a: aPrimitive, b: takenCount, pushes: 1},
		api.OpPop:     {pops: 1},
		api.OpSlide:   {a: slotCount, pops: 1, pushes: 1},
		api.OpStore:   {a: aSlot, pops: 1},
		api.OpLoop:    {},
		api.OpPick:    {a: aSlot, pushes: 1},
	}
}

// popped is how many values an instruction pops, those that its operands count too.
func (n need) popped(i api.Ins) int {
	return n.pops + n.a.counted(i.A) + n.b.counted(i.B)
}

func (o operand) counted(number int) int {
	switch o {
	case argCount, slotCount, takenCount:
		return number
	}
	return 0
}

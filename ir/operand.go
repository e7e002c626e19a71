package ir

import "tandem/api"

// operand is what an operand of an instruction names.
type operand int

const (
	nothing operand = iota // it is 0
	aRegister
	aSlot
	aRaw
	aName
	aProto
	aPlace // an instruction
	anExit
	anOwner  // of constants: the code itself, or a proto
	ownValue // of the frame's closure
	anyValue // of a closure that is not known
	other    // what hangs on other operands too
)

// operands are what the operands of all instructions name, by their Op.
func operands() [api.RSetGlo + 1][5]operand {
	arithmetic := [5]operand{aRegister, aRegister, aRegister, nothing, anExit}
	comparison := [5]operand{aRegister, aRegister, aRegister}
	copying := [5]operand{aRegister, aRegister}
	guarded := [5]operand{aRegister, aRegister, nothing, nothing, anExit}
	global := [5]operand{aRegister, aName, nothing, nothing, anExit}
	slot := [5]operand{aRegister, aSlot}
	return [...][5]operand{
		api.RConst:  {aRegister, other, anOwner},
		api.RRaw:    {aRegister, aRaw},
		api.RMove:   copying,
		api.RFree:   {aRegister, ownValue},
		api.RGlobal: global,
		api.RUnbox:  guarded,
		api.RBox:    copying,
		api.RAdd:    arithmetic,
		api.RSub:    arithmetic,
		api.RMul:    arithmetic,
		api.RLess:   comparison,
		api.RSame:   comparison,
		api.RPrim:   {aRegister, other, other, other, anExit},
		api.RCar:    guarded,
		api.RCdr:    guarded,
		api.RIs:     {aRegister, aProto, nothing, nothing, anExit},
		api.RNew:    copying,
		api.RLoad:   guarded,
		api.RSave:   copying,
		api.RJump:   {aPlace},
		api.RIf:     {aRegister, aPlace},
		api.RReturn: {aRegister},
		api.RTail:   {aRegister, other},
		api.RExit:   {nothing, nothing, nothing, nothing, anExit},
		api.RSpill:  slot,
		api.RFill:   slot,
		api.RFreeOf: {aRegister, aRegister, anyValue},
		api.RSetGlo: global,
	}
}

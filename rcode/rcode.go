// Package rcode tells what instructions of register code read and write, and where they lead; and copies code. The layers that turn register code ask it.
package rcode

import (
	"slices"

	"tandem/api"
)

// Writes tells whether instructions of an Op write the register A.
func Writes(op int) bool {
	switch op {
	case api.RConst, api.RRaw, api.RMove, api.RFree, api.RFreeOf, api.RGlobal, api.RUnbox, api.RBox, api.RAdd, api.RSub, api.RMul,
		api.RLess, api.RSame, api.RPrim, api.RCar, api.RCdr, api.RNew, api.RLoad, api.RFill:
		return true
	}
	return false
}

// MayExit tells whether instructions of an Op may go to their exit.
func MayExit(op int) bool {
	switch op {
	case api.RGlobal, api.RSetGlo, api.RUnbox, api.RAdd, api.RSub, api.RMul, api.RPrim, api.RCar, api.RCdr, api.RIs, api.RLoad, api.RExit:
		return true
	}
	return false
}

// GoesOn tells whether the next instruction may come behind one of an Op.
func GoesOn(op int) bool {
	switch op {
	case api.RJump, api.RReturn, api.RTail, api.RExit:
		return false
	}
	return true
}

// Place is the field of a jump that names where it goes; nil of another instruction.
func Place(in *api.RIns) *int {
	switch in.Op {
	case api.RJump:
		return &in.A
	case api.RIf:
		return &in.B
	}
	return nil
}

// Operands are the fields of an instruction that name the registers that it reads one by one.
func Operands(in *api.RIns) []*int {
	switch in.Op {
	case api.RMove, api.RUnbox, api.RBox, api.RCar, api.RCdr, api.RNew, api.RLoad, api.RFreeOf:
		return []*int{&in.B}
	case api.RAdd, api.RSub, api.RMul, api.RLess, api.RSame:
		return []*int{&in.B, &in.C}
	case api.RSetGlo, api.RIs, api.RIf, api.RReturn, api.RTail, api.RSpill:
		return []*int{&in.A}
	case api.RSave:
		return []*int{&in.A, &in.B}
	}
	return nil
}

// Row is the row of registers that an instruction reads besides: the first one, and how many they are (fewer than one: none).
func Row(in api.RIns) (first, n int) {
	switch in.Op {
	case api.RPrim:
		return in.C, in.D
	case api.RTail:
		return in.A + 1, in.B
	}
	return 0, 0
}

// Read are the registers that an instruction reads; its exit may read more.
func Read(in api.RIns) []int {
	var all []int
	for _, field := range Operands(&in) {
		all = append(all, *field)
	}
	first, n := Row(in)
	for k := range n {
		all = append(all, first+k)
	}
	return all
}

// OfExit are the registers that an exit reads, rising.
func OfExit(e api.Exit) []int {
	var all []int
	for _, frame := range e.Frames {
		for _, l := range append([]api.Loc{frame.Self}, frame.Slots...) {
			if l.Kind == api.InReg || l.Kind == api.InRaw {
				all = append(all, l.N)
			}
		}
	}
	slices.Sort(all)
	return slices.Compact(all)
}

package fold

import "tandem/api"

// written is the register that an instruction writes, or none.
func written(in api.RIns) int {
	switch in.Op {
	case api.RConst, api.RRaw, api.RMove, api.RFree, api.RFreeOf, api.RGlobal, api.RUnbox, api.RBox, api.RAdd, api.RSub, api.RMul,
		api.RLess, api.RSame, api.RPrim, api.RCar, api.RCdr, api.RNew, api.RLoad:
		return in.A
	}
	return none
}

// read are the registers that an instruction reads; its exit may read more.
func read(in api.RIns) []int {
	switch in.Op {
	case api.RMove, api.RUnbox, api.RBox, api.RCar, api.RCdr, api.RNew, api.RLoad, api.RFreeOf:
		return []int{in.B}
	case api.RAdd, api.RSub, api.RMul, api.RLess, api.RSame:
		return []int{in.B, in.C}
	case api.RSetGlo, api.RIs, api.RIf, api.RReturn:
		return []int{in.A}
	case api.RSave:
		return []int{in.A, in.B}
	case api.RPrim:
		return row(in.C, in.D)
	case api.RTail:
		return row(in.A, in.B+1)
	}
	return nil
}

// row are so many registers from the first one on.
func row(first, n int) []int {
	var all []int
	for i := range n {
		all = append(all, first+i)
	}
	return all
}

// mayExit tells whether an instruction may go to an exit.
func mayExit(in api.RIns) bool {
	switch in.Op {
	case api.RGlobal, api.RSetGlo, api.RUnbox, api.RAdd, api.RSub, api.RMul, api.RPrim, api.RCar, api.RCdr, api.RIs, api.RLoad, api.RExit:
		return true
	}
	return false
}

// isBare tells whether an instruction does nothing but write its register.
func isBare(in api.RIns) bool { return written(in) != none && !mayExit(in) }

// isEnd tells whether nothing comes behind an instruction.
func isEnd(in api.RIns) bool {
	return in.Op == api.RReturn || in.Op == api.RTail || in.Op == api.RExit
}

// target is where a jump goes; none of another instruction.
func target(in api.RIns) int {
	switch in.Op {
	case api.RJump:
		return in.A
	case api.RIf:
		return in.B
	}
	return none
}

// turnTo lets a jump go elsewhere.
func turnTo(in *api.RIns, place int) {
	switch in.Op {
	case api.RJump:
		in.A = place
	case api.RIf:
		in.B = place
	}
}

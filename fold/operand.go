package fold

import (
	"tandem/api"
	"tandem/rcode"
)

// written is the register that an instruction writes, or none.
func written(in api.RIns) int {
	if rcode.Writes(in.Op) {
		return in.A
	}
	return none
}

// isBare tells whether an instruction does nothing but write its register.
func isBare(in api.RIns) bool { return rcode.Writes(in.Op) && !rcode.MayExit(in.Op) }

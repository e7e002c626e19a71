package regs

import (
	"tandem/api"
	"tandem/rcode"
)

// mostRegs is how many registers code may have at most.
const mostRegs = 1 << 16

// reader tells whether what code names is there.
type reader struct {
	api.Code
	isExit []bool // exits that read registers that are there
}

// isReadable tells whether code names only registers, exits and instructions that are there.
func isReadable(c api.Code) bool {
	if c.Regs < 0 || c.Regs > mostRegs {
		return false
	}
	r := reader{Code: c}
	for _, e := range c.Exits {
		r.isExit = append(r.isExit, all(rcode.OfExit(e), r.isRegister))
	}
	for i, in := range c.Ins {
		if !r.reads(in) || !r.leads(i, in) {
			return false
		}
	}
	return true
}

func (r *reader) isRegister(n int) bool { return isBelow(n, r.Regs) }

// reads tells whether there is such an instruction, and the registers that it reads and writes.
func (r *reader) reads(in api.RIns) bool {
	if in.Op < api.RConst || in.Op > api.RSetGlo || rcode.Writes(in.Op) && !r.isRegister(in.A) {
		return false
	}
	if !all(rcode.Operands(&in), func(field *int) bool { return r.isRegister(*field) }) {
		return false
	}
	first, n := rcode.Row(in)
	return n <= 0 || first >= 0 && n <= r.Regs-first
}

// leads tells whether all is there that may come behind an instruction.
func (r *reader) leads(i int, in api.RIns) bool {
	if rcode.MayExit(in.Op) && !(isBelow(in.E, len(r.Exits)) && r.isExit[in.E]) {
		return false
	}
	if to := rcode.Place(&in); to != nil && !isBelow(*to, len(r.Ins)) {
		return false
	}
	return !rcode.GoesOn(in.Op) || i+1 < len(r.Ins)
}

func isBelow(n, end int) bool { return n >= 0 && n < end }

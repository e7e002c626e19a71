package emit_test

import (
	"strconv"

	"tandem/api"
)

// Which code may run, by the rules of layer 11: what P9.2 asks of all code that is made.

// effect is how many values an instruction wants, and how many more it leaves.
func effect(i api.Ins) (wants, leaves int) {
	switch i.Op {
	case api.OpConst, api.OpLocal, api.OpFree, api.OpGlobal, api.OpPick:
		return 0, 1
	case api.OpSetGlo, api.OpDefine, api.OpBox, api.OpUnbox, api.OpReturn:
		return 1, 0
	case api.OpSetBox:
		return 2, -1
	case api.OpClosure, api.OpPrim:
		return i.B, 1 - i.B
	case api.OpCall, api.OpTail, api.OpSlide:
		return i.A + 1, -i.A
	case api.OpPop, api.OpStore, api.OpFalse:
		return 1, -1
	}
	return 0, 0
}

// wrongCode tells what is wrong with a program's code; nothing, if it may run.
func wrongCode(ps []api.Proto) string {
	if len(ps) == 0 || ps[0].Args != 0 || ps[0].Rest || ps[0].Free != 0 {
		return "no program"
	}
	for n, p := range ps {
		if p.Args < 0 || p.Args > api.MaxArgs || p.Free < 0 || p.Free > api.MaxStack || len(p.Code) == 0 || len(p.Code) > api.MaxCode {
			return "proto " + strconv.Itoa(n)
		}
		if pc, wrong := wrongProto(ps, p); wrong != "" {
			return "proto " + strconv.Itoa(n) + " at " + strconv.Itoa(pc) + ": " + wrong
		}
	}
	return ""
}

func wrongProto(ps []api.Proto, p api.Proto) (int, string) {
	depths := make([]int, len(p.Code))
	for i := range depths {
		depths[i] = -1
	}
	depths[0] = p.Args
	if p.Rest {
		depths[0]++
	}
	for work := []int{0}; len(work) > 0; {
		pc := work[len(work)-1]
		work = work[:len(work)-1]
		i, depth := p.Code[pc], depths[pc]
		wants, leaves := effect(i)
		switch wrong := wrongOperands(ps, p, i, depth); {
		case wrong != "":
			return pc, wrong
		case wants > depth || depth+leaves > api.MaxStack:
			return pc, "stack"
		}
		for _, to := range nexts(i, pc) {
			switch {
			case to < 0 || to >= len(p.Code):
				return pc, "jump"
			case depths[to] < 0:
				depths[to] = depth + leaves
				work = append(work, to)
			case depths[to] != depth+leaves:
				return pc, "depths part"
			}
		}
	}
	return 0, ""
}

func nexts(i api.Ins, pc int) []int {
	switch i.Op {
	case api.OpReturn, api.OpTail:
		return nil
	case api.OpJump:
		return []int{i.A}
	case api.OpFalse:
		return []int{pc + 1, i.A}
	}
	return []int{pc + 1}
}

func wrongOperands(ps []api.Proto, p api.Proto, i api.Ins, depth int) string {
	if i.Op < api.OpConst || i.Op > api.OpPick {
		return "op"
	}
	operands := words()[i.Op]
	if n := operands[len(operands)-1]; n < '2' && i.B != 0 || n < '1' && i.A != 0 {
		return "an operand that is not 0"
	}
	bound, count := -1, -1 // what A is below; what is from 0 to MaxArgs
	switch i.Op {
	case api.OpConst:
		bound = len(p.Consts)
	case api.OpLocal, api.OpPick:
		bound = depth
	case api.OpStore:
		bound = depth - 1
	case api.OpFree:
		bound = p.Free
	case api.OpGlobal, api.OpSetGlo, api.OpDefine:
		bound = len(p.Names)
	case api.OpClosure:
		bound, count = len(ps), i.B
	case api.OpPrim:
		bound = len(api.Prims()) - 7
	case api.OpSlide:
		bound = api.MaxStack + 1
	case api.OpCall, api.OpTail:
		bound, count = i.A+1, i.A
	}
	switch {
	case i.A < 0 || bound >= 0 && i.A >= bound || count > api.MaxArgs:
		return "index"
	case i.Op == api.OpClosure && ps[i.A].Free != i.B:
		return "values of a closure"
	case i.Op == api.OpPrim && (i.B < api.Prims()[i.A].Least || api.Prims()[i.A].Most >= 0 && i.B > api.Prims()[i.A].Most):
		return "arguments of a primitive"
	}
	return ""
}

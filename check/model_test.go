package check_test

import (
	"maps"
	"slices"

	"tandem/api"
)

// A second checker, instruction by instruction as the chapter tells them, that looks through all that is to be looked at for the least place.

// model is what the second checker knows of a proto.
type model struct {
	ps     []api.Proto
	p      api.Proto
	depths map[int]int
	open   map[int]bool
}

func modelProgram(ps []api.Proto) verdict {
	if len(ps) == 0 {
		return verdict{0, 0, api.ErrCode}
	}
	for n, p := range ps {
		if n == 0 && (p.Args != 0 || p.Rest || p.Free != 0) || p.Args < 0 || p.Args > 64 || p.Free < 0 || p.Free > 4096 || len(p.Code) < 1 || len(p.Code) > 65536 {
			return verdict{n, 0, api.ErrIndex}
		}
		if _, pc, e := modelProto(ps, p); e != api.OK {
			return verdict{n, pc, e}
		}
	}
	return verdict{}
}

// modelDepths are the depths of a proto of a right program.
func modelDepths(ps []api.Proto, n int) []int {
	found, _, _ := modelProto(ps, ps[n])
	all := make([]int, len(ps[n].Code))
	for pc := range all {
		d, ok := found[pc]
		if !ok {
			d = -1
		}
		all[pc] = d
	}
	return all
}

func modelProto(ps []api.Proto, p api.Proto) (map[int]int, int, api.Errno) {
	depth := p.Args
	if p.Rest {
		depth = p.Args + 1
	}
	m := model{ps, p, map[int]int{0: depth}, map[int]bool{0: true}}
	for len(m.open) > 0 {
		pc := slices.Min(slices.Collect(maps.Keys(m.open)))
		delete(m.open, pc)
		if e := m.step(pc); e != api.OK {
			return nil, pc, e
		}
	}
	return m.depths, 0, api.OK
}

// step does an instruction.
func (m *model) step(pc int) api.Errno {
	i := m.p.Code[pc]
	switch i.Op {
	case api.OpConst:
		return m.named(pc, len(m.p.Consts), 0, 1)
	case api.OpFree:
		return m.named(pc, m.p.Free, 0, 1)
	case api.OpGlobal:
		return m.named(pc, len(m.p.Names), 0, 1)
	case api.OpSetGlo, api.OpDefine:
		return m.named(pc, len(m.p.Names), 1, 0)
	case api.OpCall, api.OpTail:
		return m.named(pc, 65, i.A+1, -i.A)
	case api.OpSlide:
		return m.named(pc, 4097, i.A+1, -i.A)
	case api.OpLocal, api.OpPick, api.OpStore:
		return m.slotted(pc)
	case api.OpBox, api.OpUnbox, api.OpReturn:
		return m.bare(pc, 1, 0)
	case api.OpSetBox:
		return m.bare(pc, 2, -1)
	case api.OpPop:
		return m.bare(pc, 1, -1)
	case api.OpLoop:
		return m.bare(pc, 0, 0)
	case api.OpClosure:
		return m.closure(pc)
	case api.OpPrim:
		return m.prim(pc)
	case api.OpJump:
		if i.B != 0 {
			return api.ErrCode
		}
		return m.stack(pc, 0, 0)
	case api.OpFalse:
		if i.B != 0 {
			return api.ErrCode
		}
		return m.stack(pc, 1, -1)
	}
	return api.ErrCode
}

// bare: no operand is named.
func (m *model) bare(pc, wants, more int) api.Errno {
	if m.p.Code[pc].A != 0 || m.p.Code[pc].B != 0 {
		return api.ErrCode
	}
	return m.stack(pc, wants, more)
}

// named: A is from 0 to below what there is.
func (m *model) named(pc, there, wants, more int) api.Errno {
	i := m.p.Code[pc]
	if i.B != 0 {
		return api.ErrCode
	}
	if i.A < 0 || i.A >= there {
		return api.ErrIndex
	}
	return m.stack(pc, wants, more)
}

func (m *model) slotted(pc int) api.Errno {
	i, depth := m.p.Code[pc], m.depths[pc]
	if i.B != 0 {
		return api.ErrCode
	}
	if i.Op == api.OpStore {
		if depth == 0 {
			return api.ErrStack
		}
		if i.A < 0 || i.A > depth-2 {
			return api.ErrIndex
		}
		return m.stack(pc, 1, -1)
	}
	if i.A < 0 || i.A > depth-1 {
		return api.ErrIndex
	}
	return m.stack(pc, 0, 1)
}

func (m *model) closure(pc int) api.Errno {
	i := m.p.Code[pc]
	if i.A < 0 || i.A >= len(m.ps) || i.B < 0 || i.B > 64 {
		return api.ErrIndex
	}
	if m.ps[i.A].Free != i.B {
		return api.ErrKind
	}
	return m.stack(pc, i.B, 1-i.B)
}

func (m *model) prim(pc int) api.Errno {
	i, prims := m.p.Code[pc], api.Prims()
	if i.A < 0 || i.A >= len(prims) {
		return api.ErrIndex
	}
	if slices.Contains([]string{"apply", "call/cc", "dynamic-wind", "with-exception-handler", "raise", "raise-continuable", "error"}, prims[i.A].Name) {
		return api.ErrKind
	}
	if i.B < prims[i.A].Least || prims[i.A].Most >= 0 && i.B > prims[i.A].Most {
		return api.ErrKind
	}
	return m.stack(pc, i.B, 1-i.B)
}

func (m *model) stack(pc, wants, more int) api.Errno {
	i, depth := m.p.Code[pc], m.depths[pc]
	if depth < wants || depth+more > 4096 {
		return api.ErrStack
	}
	ways := []int{pc + 1}
	switch i.Op {
	case api.OpReturn, api.OpTail:
		return api.OK
	case api.OpJump:
		ways = []int{i.A}
	case api.OpFalse:
		ways = append(ways, i.A)
	}
	if slices.ContainsFunc(ways, func(to int) bool { return to < 0 || to >= len(m.p.Code) }) {
		return api.ErrJump
	}
	for _, to := range ways {
		if d, ok := m.depths[to]; ok && d != depth+more {
			return api.ErrStack
		}
		if _, ok := m.depths[to]; !ok {
			m.depths[to], m.open[to] = depth+more, true
		}
	}
	return api.OK
}

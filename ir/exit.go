package ir

import "tandem/api"

// guard is the exit that a guard goes to. It stays the same till something is done that can be told: the registers that its frames stand in are not written again up to the next merge.
func (p *path) guard() int {
	if p.exit == none {
		p.exit = p.newExit()
	}
	return p.exit
}

// newExit is an exit to all frames as they stand ahead of the next instruction.
func (p *path) newExit() int {
	p.hold(ofExits, len(p.slots)+1)
	if p.long {
		return 0
	}
	p.Exits = append(p.Exits, api.Exit{Frames: p.frames(p.builder, p.pc, len(p.slots))})
	return len(p.Exits) - 1
}

// frames are that of a builder, which stands at pc and whose slots end there, and those around it, which stand behind their calls.
func (p *path) frames(b *builder, pc, end int) []api.Frame {
	f := api.Frame{Proto: b.proto, Pc: pc, Self: api.Loc{Kind: api.InSelf}}
	for slot := b.base; slot < end; slot++ {
		f.Slots = append(f.Slots, p.loc(slot))
	}
	if !b.isInlined() {
		return []api.Frame{f}
	}
	callee := b.base - 1
	f.Self = p.loc(callee)
	return append(p.frames(b.builder, b.at+1, callee), f)
}

// loc is where the value of a slot is found.
func (p *path) loc(slot int) api.Loc {
	t := p.slots[slot]
	switch {
	case t.isLiteral():
		return api.Loc{Kind: api.InConst, N: p.consts.of(t.literal)}
	case t.in[asValue] != none:
		return api.Loc{Kind: api.InReg, N: t.in[asValue]}
	}
	return api.Loc{Kind: api.InRaw, N: t.in[asRaw]}
}

package ir

import "tandem/api"

// builder builds the code of a procedure. That of an inlined one embeds the builder around it, whose frame waits for its answer.
type builder struct {
	*builder // nil, if it builds the code's own procedure
	*maker
	proto    int
	bytecode []api.Ins
	places   []place // of the instructions
	todo     []int   // those that are reached and were not looked at
	returns  int     // how many of them return
	calls    map[int]*builder
	at       int // where it is called, in the procedure around it
	deep     int // how many are around it
	base     int // which slot is its first one
}

// place is what is known of an instruction before any code is written.
type place struct {
	ways  int    // how many ways lead there; 0, if it is not reached
	again bool   // one of them leads back
	stops bool   // what it does is left to the baseline machine
	merge *merge // if there is more than one way
}

func (m *maker) builderOf(around *builder, proto, at int) *builder {
	b := &builder{builder: around, maker: m, proto: proto, at: at, bytecode: m.protos[proto].Code, calls: map[int]*builder{}}
	b.places = make([]place, len(b.bytecode))
	if around != nil {
		b.deep = around.deep + 1
	}
	return b
}

// isInlined tells whether a frame around its own one waits.
func (b *builder) isInlined() bool { return b.builder != nil }

// survey finds what is reached from a place on, which calls are inlined, and where ways meet.
func (b *builder) survey(start int) {
	b.reach(start, 1)
	for len(b.todo) > 0 {
		pc := b.todo[0]
		b.todo = b.todo[1:]
		b.look(pc)
	}
	for pc := range b.places {
		if p := &b.places[pc]; p.ways > 1 {
			p.merge = &merge{again: p.again}
			b.merges = append(b.merges, p.merge)
		}
	}
}

// reach comes to a place by so many ways more.
func (b *builder) reach(pc, ways int) {
	if p := &b.places[pc]; ways > 0 {
		if p.ways == 0 {
			b.todo = append(b.todo, pc)
		}
		p.ways += ways
	}
}

// jump comes to a place from another one.
func (b *builder) jump(from, to int) {
	b.reach(to, 1)
	if to <= from {
		b.places[to].again = true
	}
}

// look reaches what an instruction goes on to.
func (b *builder) look(pc int) {
	in, p := b.bytecode[pc], &b.places[pc]
	switch in.Op {
	case api.OpReturn:
		b.returns++
	case api.OpJump:
		b.jump(pc, in.A)
	case api.OpFalse:
		b.reach(pc+1, 1)
		b.jump(pc, in.A)
	case api.OpClosure:
		p.stops = true
	case api.OpTail: // the frame of an inlined procedure has others around it, which register code cannot leave waiting
		p.stops = b.isInlined()
		b.wantRow(in.A + 1)
	case api.OpCall:
		b.plan(pc)
	case api.OpConst:
		if p.stops = !b.isKnown(in.A); !p.stops {
			b.reach(pc+1, 1)
		}
	case api.OpPrim:
		b.wantRow(in.B)
		b.reach(pc+1, 1)
	default:
		b.reach(pc+1, 1)
	}
}

// wantRow lets there be so many registers in a row.
func (m *maker) wantRow(n int) {
	if n > 1 {
		m.longest = max(m.longest, n)
	}
}

// isKnown tells whether it is known what pushing a constant comes to.
func (b *builder) isKnown(n int) bool {
	d, at := b.protos[b.proto].Consts[n], [2]int{b.proto, n}
	if _, ok := literalOf(d); ok {
		return true
	}
	if b.objects[at] == unasked {
		b.objects[at] = refused
		if isObject(d) {
			b.objects[at] = laid
		}
	}
	return b.objects[at] == laid
}

// plan settles whether a call is inlined: if it always went to the same code as far as was seen, and there is not too much of it.
func (b *builder) plan(pc int) {
	n, args := b.seen.At(b.proto, pc).Callee, b.bytecode[pc].A
	if !b.mayInline(n, args) {
		b.places[pc].stops = true
		return
	}
	b.left -= len(b.protos[n].Code)
	in := b.builderOf(b, n, pc)
	in.survey(0)
	b.calls[pc] = in
	b.wantRow(args - b.protos[n].Args)
	b.reach(pc+1, in.returns)
}

func (b *builder) mayInline(n, args int) bool {
	if n < 0 || n >= len(b.protos) || b.deep == mostDeep {
		return false
	}
	p := b.protos[n]
	return len(p.Code) <= b.left && (args == p.Args || p.Rest && args > p.Args)
}

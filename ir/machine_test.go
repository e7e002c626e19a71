package ir_test

import (
	"slices"

	"tandem/api"
	"tandem/check"
	"tandem/feed"
	"tandem/prim"
	"tandem/show"
	"tandem/value"
)

// A machine of both tiers, for these tests: nothing is ever collected, a continuation is a copy of all frames, and what the machine waits for is a function.

// frame is a frame of a procedure, or what is done with an answer.
type frame struct {
	proto, pc int
	self      uint64
	slots     []uint64
	begins    bool // a call has just made it
	left      bool // an exit has just made it: its next instruction is the baseline's
	then      func(w uint64)
}

type wind struct {
	before, after uint64
	handlers      []uint64
}

// state is all that a continuation puts back; the outermost wind, and the first handler's last, are first.
type state struct {
	frames   []frame
	handlers []uint64
	winds    []*wind
}

func (s state) copied() state {
	frames := slices.Clone(s.frames)
	for i := range frames {
		frames[i].slots = slices.Clone(frames[i].slots)
	}
	return state{frames, slices.Clone(s.handlers), slices.Clone(s.winds)}
}

type machine struct {
	*value.Store
	state
	ps      []api.Proto
	limits  api.Limits
	consts  map[[2]int]uint64
	globals map[string]uint64
	states  []state
	table   *feed.Table // what the baseline has seen
	done    int
	great   bool // a primitive came to a number that is no fixnum
	out     []byte
	over    api.Outcome

	codes   map[[2]int]api.Code    // by proto and entry
	fails   func() bool            // is asked of each guard that is done
	begins  func(proto, entry int) // is told of where register code may begin, ahead of that
	entered int
	failed  int
}

// over is thrown when the run is over.
type over struct{}

// broken is how a run ended whose register code did what no right code does; its text says what.
const broken = 99

func newMachine(ps []api.Proto, l api.Limits, codes ...api.Code) *machine {
	store, _ := value.New(api.MaxWords)
	m := &machine{Store: store, ps: ps, limits: l, consts: map[[2]int]uint64{}, globals: map[string]uint64{}, table: feed.New(), codes: map[[2]int]api.Code{}}
	for _, c := range codes {
		m.codes[[2]int{c.Proto, c.Entry}] = c
	}
	m.frames = []frame{{self: 14}}
	return m
}

// run runs till the run is over, and tells how it ended.
func (m *machine) run() api.Outcome {
	func() {
		defer func() {
			if x := recover(); x != nil {
				if _, ok := x.(over); !ok {
					panic(x)
				}
			}
		}()
		for m.done < m.limits.Fuel {
			m.instruction()
		}
		m.end(api.Fuel)
	}()
	m.over.Output = string(m.out)
	return m.over
}

// again lets a machine whose run is over go on with another frame; globals stay as they are.
func (m *machine) again(f frame, fuel int) {
	m.state, m.over = state{frames: []frame{f}}, api.Outcome{}
	m.limits.Fuel = m.done + fuel
}

// anyFrame is one whose slots and closure are any, the same for each seed.
func (m *machine) anyFrame(seed uint64, p, entry int) frame {
	d := &dice{seed}
	f := frame{proto: p, pc: entry, begins: entry == 0, self: m.closure(p, m.anyWords(d, m.ps[p].Free)...)}
	f.slots = m.anyWords(d, check.Depths(m.ps, p)[entry])
	return f
}

func (m *machine) anyWords(d *dice, n int) []uint64 {
	var all []uint64
	for range n {
		all = append(all, m.anyWord(d))
	}
	return all
}

func (m *machine) anyWord(d *dice) uint64 {
	switch d.below(22) {
	case 0:
		return pick[uint64](d, 2, 6, 10, 14, 18, 65<<8|22)
	case 1:
		return uint64(d.below(92))<<8 | 26
	case 2:
		return m.newBox(m.anyWord(d))
	case 3:
		return m.newBox(18)
	case 4:
		return m.sure(m.Cons(m.anyWord(d), m.anyWord(d)))
	case 5:
		n := d.below(len(m.ps))
		return m.closure(n, m.anyWords(d, m.ps[n].Free)...)
	case 6:
		return m.lay(pick(d, whole(1<<61-1), whole(-1<<61), whole(1<<61), whole(1<<62), whole(1<<40)))
	case 7:
		return m.lay(pick(d, api.Datum{Kind: api.String, Text: "t"}, api.Datum{Kind: api.Symbol, Text: "a"}, api.Datum{Kind: api.Vector, Items: []api.Datum{whole(1)}}))
	}
	return m.lay(whole(int64(d.below(9)) - 2))
}

func (m *machine) instruction() {
	f := m.top()
	in := m.ps[f.proto].Code[f.pc]
	if f.begins || in.Op == api.OpLoop && !f.left {
		if m.begins != nil {
			m.begins(f.proto, f.pc)
		}
		if m.enterCode(f.proto, f.pc) {
			return
		}
	}
	f.begins, f.left = false, false
	m.done++
	f.pc++
	m.do(f, in)
}

func (m *machine) end(how int) {
	m.over.How = how
	panic(over{})
}

func (m *machine) breaks(what string) {
	m.over.Text = what
	m.end(broken)
}

func (m *machine) endWith(how int, w uint64) {
	d, ok := m.Take(w, api.MaxSteps)
	if !ok {
		m.end(api.Bound)
	}
	m.over.Text = show.Write(d)
	m.end(how)
}

func (m *machine) top() *frame { return &m.frames[len(m.frames)-1] }

func (f *frame) push(w uint64) { f.slots = append(f.slots, w) }

func (f *frame) pop() uint64 { return f.popAll(1)[0] }

func (f *frame) popAll(n int) []uint64 {
	at := len(f.slots) - n
	all := slices.Clone(f.slots[at:])
	f.slots = f.slots[:at]
	return all
}

// sure is what was laid; the store has room for any run of a test.
func (m *machine) sure(w uint64, ok bool) uint64 {
	if !ok {
		m.end(api.Memory)
	}
	return w
}

func (m *machine) do(f *frame, in api.Ins) {
	p := m.ps[f.proto]
	switch in.Op {
	case api.OpConst:
		f.push(m.constant(f.proto, in.A))
	case api.OpLocal, api.OpPick:
		f.push(f.slots[in.A])
	case api.OpFree:
		w, _ := m.Get(f.self, in.A)
		f.push(w)
	case api.OpGlobal, api.OpSetGlo, api.OpDefine:
		m.global(f, in.Op, p.Names[in.A])
	case api.OpBox, api.OpUnbox, api.OpSetBox:
		m.box(f, in.Op)
	case api.OpClosure:
		f.push(m.closure(in.A, f.popAll(in.B)...))
	case api.OpCall, api.OpTail:
		all := f.popAll(in.A + 1)
		m.table.Call(f.proto, f.pc-1, m.codeOf(all[0]))
		if in.Op == api.OpTail {
			m.frames = m.frames[:len(m.frames)-1]
		}
		m.call(all[0], all[1:]...)
	case api.OpReturn:
		w := f.pop()
		m.frames = m.frames[:len(m.frames)-1]
		m.give(w)
	case api.OpPrim:
		all := f.popAll(in.B)
		for _, w := range all {
			m.table.See(f.proto, f.pc-1, m.kindOf(w))
		}
		m.call(uint64(in.A)<<8|26, all...)
	default:
		f.move(in)
	}
}

func (f *frame) move(in api.Ins) {
	switch in.Op {
	case api.OpJump:
		f.pc = in.A
	case api.OpFalse:
		if f.pop() == 2 {
			f.pc = in.A
		}
	case api.OpPop:
		f.pop()
	case api.OpSlide:
		w := f.pop()
		f.popAll(in.A)
		f.push(w)
	case api.OpStore:
		w := f.pop()
		f.slots[in.A] = w
	}
}

// codeOf is a closure's code; -1 of another word.
func (m *machine) codeOf(w uint64) int {
	if m.Kind(w) != 6 {
		return -1
	}
	n, _ := m.Raw(w, 0)
	return int(n)
}

func (m *machine) kindOf(w uint64) int {
	d, _ := m.Take(w, api.MaxSteps)
	return d.Kind
}

func (m *machine) closure(code int, values ...uint64) uint64 {
	c := m.sure(m.Alloc(6, len(values), 1))
	for i, w := range values {
		m.Set(c, i, w)
	}
	m.SetRaw(c, 0, uint64(code))
	return c
}

func (m *machine) newBox(w uint64) uint64 {
	b := m.sure(m.Alloc(7, 1, 0))
	m.Set(b, 0, w)
	return b
}

func (m *machine) constant(proto, i int) uint64 {
	at := [2]int{proto, i}
	w, ok := m.consts[at]
	if !ok {
		w = m.lay(m.ps[proto].Consts[i])
		m.consts[at] = w
	}
	return w
}

func (m *machine) lay(d api.Datum) uint64 {
	w, ok := uint64(18), true
	switch {
	case d.Kind == api.Symbol && d.Text == "" && d.N == -1:
	case d.Kind == api.Proc:
		w, ok = uint64(d.N)<<8|26, d.Text == "" && d.N >= 0 && d.N < len(api.Prims())
	default:
		w, ok = m.Put(d)
	}
	if !ok {
		m.end(api.Bound)
	}
	return w
}

func (m *machine) global(f *frame, op int, name string) {
	old, ok := m.globals[name]
	w := old
	if op != api.OpGlobal {
		w = f.pop()
	}
	if !ok && op != api.OpDefine {
		m.wrong("unbound", name)
		return
	}
	m.globals[name] = w
	if op != api.OpGlobal {
		w = 14
	}
	f.push(w)
}

func (m *machine) box(f *frame, op int) {
	w := f.pop()
	if op == api.OpBox {
		f.push(m.newBox(w))
		return
	}
	b := w
	if op == api.OpSetBox {
		b = f.pop()
	}
	if m.Kind(b) != 7 {
		m.end(api.Bound)
	}
	if op == api.OpSetBox {
		m.Set(b, 0, w)
		f.push(14)
		return
	}
	if w, _ = m.Get(b, 0); w == 18 {
		m.wrong("unassigned", "")
		return
	}
	f.push(w)
}

// give hands an answer to where it is waited for.
func (m *machine) give(w uint64) {
	if len(m.frames) == 0 {
		m.endWith(api.Value, w)
	}
	if f := m.top(); f.then == nil {
		f.push(w)
		return
	}
	then := m.top().then
	m.frames = m.frames[:len(m.frames)-1]
	then(w)
}

// callThen calls, and does something with the answer.
func (m *machine) callThen(then func(w uint64), f uint64, args ...uint64) {
	m.frames = append(m.frames, frame{then: then})
	m.call(f, args...)
}

func (m *machine) call(f uint64, args ...uint64) {
	switch {
	case len(args) > 1024:
		m.end(api.Bound)
	case m.Kind(f) == 6:
		m.callClosure(f, args)
	case f&255 == 26 && f>>8 >= 85:
		m.control(int(f>>8), args)
	case f&255 == 26:
		w, out, how := prim.Do(m.Store, int(f>>8), args...)
		m.primitive(w, out, how)
	case m.Kind(f) == 8 && len(args) != 1:
		m.wrong("arity", "continuation", args...)
	case m.Kind(f) == 8:
		n, _ := m.Raw(f, 0)
		m.travel(m.states[n], args[0])
	default:
		m.wrong("apply", "call", append([]uint64{f}, args...)...)
	}
}

func (m *machine) callClosure(f uint64, args []uint64) {
	n := m.codeOf(f)
	p := m.ps[n]
	if len(args) < p.Args || !p.Rest && len(args) > p.Args {
		m.wrong("arity", p.Name, args...)
		return
	}
	slots := slices.Clone(args[:p.Args])
	if p.Rest {
		slots = append(slots, m.sure(m.List(args[p.Args:]...)))
	}
	m.frames = append(m.frames, frame{proto: n, self: f, slots: slots, begins: true})
}

func (m *machine) primitive(w uint64, out []byte, how int) {
	switch how {
	case api.Done:
		m.great = m.great || m.Kind(w) == 5
		m.putOut(out)
		m.give(w)
	case api.Wrong:
		m.raise(w)
	default:
		m.endFor(how)
	}
}

func (m *machine) endFor(how int) {
	if how == api.Room {
		m.end(api.Memory)
	}
	m.end(api.Bound)
}

func (m *machine) putOut(out []byte) {
	m.out = append(m.out, out...)
	if len(m.out) > m.limits.Output {
		m.out = m.out[:m.limits.Output]
		m.end(api.Bound)
	}
}

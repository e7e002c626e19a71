package base_test

import (
	"slices"

	"tandem/api"
	"tandem/prim"
	"tandem/show"
	"tandem/value"
)

// A second machine: nothing is ever collected, a continuation is a copy of all frames, and what the machine waits for is a function.

// modelFrame is a frame of a procedure, or what is done with an answer.
type modelFrame struct {
	proto, pc int
	self      uint64
	slots     []uint64
	then      func(w uint64)
}

type modelWind struct {
	before, after uint64
	handlers      []uint64
}

// modelState is all that a continuation puts back; the outermost wind, and the first handler's last, are first.
type modelState struct {
	frames   []modelFrame
	handlers []uint64
	winds    []*modelWind
}

func (s modelState) copied() modelState {
	frames := slices.Clone(s.frames)
	for i := range frames {
		frames[i].slots = slices.Clone(frames[i].slots)
	}
	return modelState{frames, slices.Clone(s.handlers), slices.Clone(s.winds)}
}

type model struct {
	*value.Store
	modelState
	ps      []api.Proto
	limits  api.Limits
	consts  map[[2]int]uint64
	globals map[string]uint64
	states  []modelState
	done    int
	out     []byte
	over    api.Outcome
}

// modelEnd is thrown when the run is over.
type modelEnd struct{}

// modelRun is what a run comes to with room enough.
func modelRun(ps []api.Proto, l api.Limits) api.Outcome {
	store, _ := value.New(api.MaxWords)
	m := &model{Store: store, ps: ps, limits: l, consts: map[[2]int]uint64{}, globals: map[string]uint64{}}
	m.frames = []modelFrame{{self: 14}}
	m.run()
	m.over.Output = string(m.out)
	return m.over
}

func (m *model) run() {
	defer func() {
		if x := recover(); x != nil {
			if _, ok := x.(modelEnd); !ok {
				panic(x)
			}
		}
	}()
	for m.done < m.limits.Fuel {
		m.done++
		f := m.top()
		in := m.ps[f.proto].Code[f.pc]
		f.pc++
		m.do(f, in)
	}
	m.end(api.Fuel)
}

func (m *model) end(how int) {
	m.over.How = how
	panic(modelEnd{})
}

func (m *model) endWith(how int, w uint64) {
	d, ok := m.Take(w, api.MaxSteps)
	if !ok {
		m.end(api.Bound)
	}
	m.over.Text = show.Write(d)
	m.end(how)
}

func (m *model) top() *modelFrame { return &m.frames[len(m.frames)-1] }

func (f *modelFrame) push(w uint64) { f.slots = append(f.slots, w) }

func (f *modelFrame) pop() uint64 { return f.popAll(1)[0] }

func (f *modelFrame) popAll(n int) []uint64 {
	at := len(f.slots) - n
	all := slices.Clone(f.slots[at:])
	f.slots = f.slots[:at]
	return all
}

// sure is what was laid; the store has room for any run of a test.
func (m *model) sure(w uint64, ok bool) uint64 {
	if !ok {
		m.end(api.Memory)
	}
	return w
}

func (m *model) do(f *modelFrame, in api.Ins) {
	p := m.ps[f.proto]
	switch in.Op {
	case api.OpConst:
		f.push(m.constant(f.proto, in.A))
	case api.OpLocal, api.OpPick:
		f.push(f.slots[in.A])
	case api.OpFree:
		w, _ := m.Get(f.self, in.A)
		f.push(w)
	case api.OpGlobal, api.OpSetGlo, api.OpDefine:
		m.global(f, in.Op, p.Names[in.A])
	case api.OpBox, api.OpUnbox, api.OpSetBox:
		m.box(f, in.Op)
	case api.OpClosure:
		c := m.sure(m.Alloc(6, in.B, 1))
		for i, w := range f.popAll(in.B) {
			m.Set(c, i, w)
		}
		m.SetRaw(c, 0, uint64(in.A))
		f.push(c)
	case api.OpCall, api.OpTail:
		all := f.popAll(in.A + 1)
		if in.Op == api.OpTail {
			m.frames = m.frames[:len(m.frames)-1]
		}
		m.call(all[0], all[1:]...)
	case api.OpReturn:
		w := f.pop()
		m.frames = m.frames[:len(m.frames)-1]
		m.give(w)
	case api.OpPrim:
		m.call(uint64(in.A)<<8|26, f.popAll(in.B)...)
	default:
		m.move(f, in)
	}
}

func (m *model) move(f *modelFrame, in api.Ins) {
	switch in.Op {
	case api.OpJump:
		f.pc = in.A
	case api.OpFalse:
		if f.pop() == 2 {
			f.pc = in.A
		}
	case api.OpPop:
		f.pop()
	case api.OpSlide:
		w := f.pop()
		f.popAll(in.A)
		f.push(w)
	case api.OpStore:
		w := f.pop()
		f.slots[in.A] = w
	}
}

func (m *model) constant(proto, i int) uint64 {
	if w, ok := m.consts[[2]int{proto, i}]; ok {
		return w
	}
	d := m.ps[proto].Consts[i]
	w, ok := uint64(18), true
	switch {
	case d.Kind == api.Symbol && d.Text == "" && d.N == -1:
	case d.Kind == api.Proc:
		w, ok = uint64(d.N)<<8|26, d.Text == "" && d.N >= 0 && d.N < len(api.Prims())
	default:
		w, ok = m.Put(d)
	}
	if !ok {
		m.end(api.Bound)
	}
	m.consts[[2]int{proto, i}] = w
	return w
}

func (m *model) global(f *modelFrame, op int, name string) {
	old, ok := m.globals[name]
	w := old
	if op != api.OpGlobal {
		w = f.pop()
	}
	if !ok && op != api.OpDefine {
		m.wrong("unbound", name)
		return
	}
	m.globals[name] = w
	if op != api.OpGlobal {
		w = 14
	}
	f.push(w)
}

func (m *model) box(f *modelFrame, op int) {
	w := f.pop()
	if op == api.OpBox {
		b := m.sure(m.Alloc(7, 1, 0))
		m.Set(b, 0, w)
		f.push(b)
		return
	}
	b := w
	if op == api.OpSetBox {
		b = f.pop()
	}
	if m.Kind(b) != 7 {
		m.end(api.Bound)
	}
	if op == api.OpSetBox {
		m.Set(b, 0, w)
		f.push(14)
		return
	}
	if w, _ = m.Get(b, 0); w == 18 {
		m.wrong("unassigned", "")
		return
	}
	f.push(w)
}

// give hands an answer to where it is waited for.
func (m *model) give(w uint64) {
	if len(m.frames) == 0 {
		m.endWith(api.Value, w)
	}
	if f := m.top(); f.then == nil {
		f.push(w)
		return
	}
	then := m.top().then
	m.frames = m.frames[:len(m.frames)-1]
	then(w)
}

// callThen calls, and does something with the answer.
func (m *model) callThen(then func(w uint64), f uint64, args ...uint64) {
	m.frames = append(m.frames, modelFrame{then: then})
	m.call(f, args...)
}

func (m *model) call(f uint64, args ...uint64) {
	switch {
	case len(args) > 1024:
		m.end(api.Bound)
	case m.Kind(f) == 6:
		m.callClosure(f, args)
	case f&255 == 26 && f>>8 >= 85:
		m.control(int(f>>8), args)
	case f&255 == 26:
		w, out, how := prim.Do(m.Store, int(f>>8), args...)
		m.primitive(w, out, how)
	case m.Kind(f) == 8 && len(args) != 1:
		m.wrong("arity", "continuation", args...)
	case m.Kind(f) == 8:
		n, _ := m.Raw(f, 0)
		m.travel(m.states[n], args[0])
	default:
		m.wrong("apply", "call", append([]uint64{f}, args...)...)
	}
}

func (m *model) callClosure(f uint64, args []uint64) {
	n, _ := m.Raw(f, 0)
	p := m.ps[n]
	if len(args) < p.Args || !p.Rest && len(args) > p.Args {
		m.wrong("arity", p.Name, args...)
		return
	}
	slots := slices.Clone(args[:p.Args])
	if p.Rest {
		slots = append(slots, m.sure(m.List(args[p.Args:]...)))
	}
	m.frames = append(m.frames, modelFrame{proto: int(n), self: f, slots: slots})
}

func (m *model) primitive(w uint64, out []byte, how int) {
	switch how {
	case api.Done:
		m.out = append(m.out, out...)
		if len(m.out) > m.limits.Output {
			m.out = m.out[:m.limits.Output]
			m.end(api.Bound)
		}
		m.give(w)
	case api.Wrong:
		m.raise(w)
	case api.Room:
		m.end(api.Memory)
	case api.Limit:
		m.end(api.Bound)
	}
}

func (m *model) wrong(class, message string, irritants ...uint64) {
	m.raise(m.sure(prim.Condition(m.Store, class, message, irritants...)))
}

func (m *model) raise(w uint64) {
	if len(m.handlers) == 0 {
		m.endWith(api.Raised, w)
	}
	m.withHandlers(len(m.handlers)-1, func(uint64) { m.wrong("noncontinuable", "") }, w)
}

// withHandlers calls the first handler with just so many others.
func (m *model) withHandlers(n int, then func(w uint64), w uint64) {
	first, others := m.handlers[n], slices.Clone(m.handlers[:n])
	m.handlers = others
	m.callThen(func(w uint64) {
		m.handlers = others
		then(w)
	}, first, w)
}

func (m *model) control(n int, args []uint64) {
	p := api.Prims()[n]
	if len(args) < p.Least || p.Most >= 0 && len(args) > p.Most {
		m.wrong("arity", p.Name, args...)
		return
	}
	old := m.handlers
	switch p.Name {
	case "apply":
		m.apply(args)
	case "call/cc":
		k := m.sure(m.Alloc(8, 0, 1))
		m.SetRaw(k, 0, uint64(len(m.states)))
		m.states = append(m.states, m.copied())
		m.call(args[0], k)
	case "dynamic-wind":
		m.dynamicWind(args[0], args[1], args[2])
	case "with-exception-handler":
		if h := args[0]; m.Kind(h) != 6 && m.Kind(h) != 8 && h&255 != 26 {
			m.wrong("type", p.Name, args...)
			return
		}
		m.handlers = append(slices.Clone(old), args[0])
		m.callThen(func(w uint64) { m.handlers = old; m.give(w) }, args[1])
	case "raise":
		m.raise(args[0])
	case "raise-continuable":
		if len(old) == 0 {
			m.endWith(api.Raised, args[0])
		}
		m.withHandlers(len(old)-1, func(w uint64) { m.handlers = old; m.give(w) }, args[0])
	case "error":
		c := m.sure(prim.Condition(m.Store, "user", "", args[1:]...))
		m.Set(c, 1, args[0])
		m.raise(c)
	}
}

func (m *model) apply(args []uint64) {
	last := len(args) - 1
	all := slices.Clone(args[1:last])
	w := args[last]
	for n := 0; w != 10; n++ {
		if m.Kind(w) != 1 || n > api.MaxWords {
			m.wrong("type", "apply", args...)
			return
		}
		item, _ := m.Get(w, 0)
		all = append(all, item)
		w, _ = m.Get(w, 1)
	}
	m.call(args[0], all...)
}

func (m *model) dynamicWind(before, thunk, after uint64) {
	outer := m.winds
	wind := &modelWind{before, after, m.handlers}
	m.callThen(func(uint64) {
		m.winds = append(slices.Clone(outer), wind)
		m.callThen(func(w uint64) {
			m.winds = outer
			m.callThen(func(uint64) { m.give(w) }, after)
		}, thunk)
	}, before)
}

// travel goes by one wind nearer to a state, till it is there.
func (m *model) travel(to modelState, w uint64) {
	same := 0
	for same < min(len(m.winds), len(to.winds)) && m.winds[same] == to.winds[same] {
		same++
	}
	goOn := func(uint64) { m.travel(to, w) }
	switch n := len(m.winds); {
	case n > same:
		wind := m.winds[n-1]
		m.frames, m.winds, m.handlers = nil, slices.Clone(m.winds[:n-1]), wind.handlers
		m.callThen(goOn, wind.after)
	case n < len(to.winds):
		wind := to.winds[n]
		m.frames, m.handlers = nil, wind.handlers
		inside := append(slices.Clone(m.winds), wind)
		m.callThen(func(uint64) { m.winds = inside; goOn(14) }, wind.before)
	default:
		m.modelState = to.copied()
		m.give(w)
	}
}

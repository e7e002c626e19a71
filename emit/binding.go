package emit

import "tandem/api"

// loop is what an again must know of its loop.
type loop struct {
	vars  []int
	start int // where its OpLoop stands
	depth int // how many slots the frame has there
}

// push pushes a variable's value.
func (w *writer) push(v int) {
	w.pushAsItIs(v)
	if w.variables[v].boxed {
		w.put(api.Ins{Op: api.OpUnbox})
	}
}

// pushAsItIs pushes what stands for a variable: the box of a boxed one.
func (w *writer) pushAsItIs(v int) {
	x := w.variables[v]
	switch {
	case x.home != w:
		w.put(api.Ins{Op: api.OpFree, A: w.free.of(v)})
	case x.boxed:
		w.put(api.Ins{Op: api.OpPick, A: x.slot})
	default:
		w.put(api.Ins{Op: api.OpLocal, A: x.slot})
	}
}

// settle lets a variable stand in a slot of the frame.
func (w *writer) settle(v, slot int) {
	x := w.variables[v]
	x.home, x.slot = w, slot
}

// initial writes what a variable begins with: a box with it, if the variable is boxed.
func (w *writer) initial(v int, value *api.Core) {
	w.form(value, place{})
	if w.variables[v].boxed {
		w.put(api.Ins{Op: api.OpBox})
	}
}

// bind writes the values of a form's variables, which stand where these are pushed.
func (w *writer) bind(c *api.Core) {
	for i, v := range c.Vars {
		w.settle(v, w.depth)
		w.initial(v, &c.Subs[i])
	}
}

// body writes the body of a form that has pushed its variables, and takes these away behind it.
func (w *writer) body(c *api.Core, at place) bool {
	goesOn := w.form(&c.Subs[len(c.Vars)], at)
	if goesOn && !at.tail && len(c.Vars) > 0 {
		w.put(api.Ins{Op: api.OpSlide, A: len(c.Vars)})
	}
	return goesOn
}

func (w *writer) let(c *api.Core, at place) bool {
	w.atMost(api.MaxArgs, len(c.Vars))
	w.bind(c)
	return w.body(c, at)
}

func (w *writer) rec(c *api.Core, at place) bool {
	for _, v := range c.Vars {
		w.settle(v, w.depth)
		w.constant(unassigned())
		w.put(api.Ins{Op: api.OpBox})
	}
	for i, v := range c.Vars {
		w.pushAsItIs(v)
		w.form(&c.Subs[i], place{})
		w.put(api.Ins{Op: api.OpSetBox}, api.Ins{Op: api.OpPop})
	}
	return w.body(c, at)
}

func (w *writer) turns(c *api.Core, at place) bool {
	w.bind(c)
	at.loop = &loop{vars: c.Vars, start: len(w.code), depth: w.depth}
	w.put(api.Ins{Op: api.OpLoop})
	return w.body(c, at)
}

func (w *writer) again(c *api.Core, l *loop) {
	for i, v := range l.vars {
		w.initial(v, &c.Subs[i])
	}
	for i := range l.vars {
		v := l.vars[len(l.vars)-1-i]
		w.put(api.Ins{Op: api.OpStore, A: w.variables[v].slot})
	}
	for range w.depth - l.depth {
		w.put(api.Ins{Op: api.OpPop})
	}
	w.put(api.Ins{Op: api.OpJump, A: l.start})
}

func (w *writer) lambda(c *api.Core) {
	w.atMost(api.MaxArgs, len(c.Vars))
	in := w.begin(w)
	in.arguments(c.Vars)
	in.form(&c.Subs[0], place{tail: true})
	args := len(c.Vars)
	if c.Rest {
		args--
	}
	in.end(api.Proto{Name: c.Name, Args: args, Rest: c.Rest})
	in.capture()
}

// arguments lets a procedure's variables stand in its first slots.
func (w *writer) arguments(vars []int) {
	w.depth = len(vars)
	for slot, v := range vars {
		w.settle(v, slot)
		if w.variables[v].boxed {
			w.put(api.Ins{Op: api.OpLocal, A: slot}, api.Ins{Op: api.OpBox}, api.Ins{Op: api.OpStore, A: slot})
		}
	}
}

// capture lets the writer around make a closure. That takes no more values than a call, or it would be code that may not run.
func (w *writer) capture() {
	n := len(w.free.keys)
	w.atMost(api.MaxArgs, n)
	for _, v := range w.free.keys {
		w.writer.pushAsItIs(v)
	}
	w.writer.put(api.Ins{Op: api.OpClosure, A: w.number, B: n})
}

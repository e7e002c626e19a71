package emit_test

import (
	"slices"
	"testing"

	"tandem/api"
	"tandem/emit"
)

// A machine of the chapter's table, which looks after boxes not being taken for values, and a walker over core forms.

type closure struct {
	proto  *api.Proto
	values []any
}

type box struct{ in any }

// undefined is what stands in a box ahead of its value.
type undefined struct{}

func (c *closure) head() string { return c.proto.Name }

type machine struct {
	*world
	ps []api.Proto
}

type machineFrame struct {
	*closure
	slots []any
}

func (f *machineFrame) push(v any) { f.slots = append(f.slots, v) }

func (f *machineFrame) pop() any {
	v := f.slots[len(f.slots)-1]
	f.slots = f.slots[:len(f.slots)-1]
	return v
}

func (f *machineFrame) popAll(n int) []any {
	all := slices.Clone(f.slots[len(f.slots)-n:])
	f.slots = f.slots[:len(f.slots)-n]
	return all
}

// popValue pops what may not be a box.
func (f *machineFrame) popValue() any { return valued(f.pop()) }

func valued(v any) any {
	switch v.(type) {
	case *box, undefined:
		panic(broken("a box is taken for a value"))
	}
	return v
}

func boxed(v any) *box {
	b, ok := v.(*box)
	if !ok {
		panic(broken("a value is taken for a box"))
	}
	return b
}

func (m *machine) call(what any, args []any) any {
	m.enter()
	defer m.leave()
	for {
		for _, v := range args {
			valued(v)
		}
		switch f := what.(type) {
		case primValue:
			return m.prim(int(f), args)
		case *closure:
			frame := &machineFrame{f, m.arguments(f.head(), args, f.proto.Args, f.proto.Rest)}
			v, tail := m.run(frame)
			if !tail {
				return v
			}
			what, args = frame.slots[0], frame.slots[1:]
		default:
			panic(raised("apply " + m.told(what) + " " + m.toldRow(args)))
		}
	}
}

// run does a frame's instructions up to its end: what it comes to; or true, and the call that is its last thing is all that is in its slots.
func (m *machine) run(f *machineFrame) (any, bool) {
	for pc := 0; ; {
		m.step()
		i := f.proto.Code[pc]
		pc++
		switch i.Op {
		case api.OpReturn:
			return f.popValue(), false
		case api.OpTail:
			f.slots = f.popAll(i.A + 1)
			return nil, true
		case api.OpJump:
			pc = i.A
		case api.OpFalse:
			if f.popValue() == false {
				pc = i.A
			}
		default:
			m.do(f, i)
		}
	}
}

func (m *machine) do(f *machineFrame, i api.Ins) {
	switch i.Op {
	case api.OpConst:
		f.push(constantOf(f.proto.Consts[i.A]))
	case api.OpLocal:
		f.push(valued(f.slots[i.A]))
	case api.OpPick:
		f.push(boxed(f.slots[i.A]))
	case api.OpFree:
		f.push(f.values[i.A])
	case api.OpGlobal:
		f.push(m.global(f.proto.Names[i.A]))
	case api.OpSetGlo, api.OpDefine:
		f.push(m.setGlobal(f.proto.Names[i.A], f.popValue(), i.Op == api.OpDefine))
	case api.OpBox:
		f.push(&box{f.pop()})
	case api.OpUnbox:
		v := boxed(f.pop()).in
		if v == (undefined{}) {
			panic(raised("unassigned"))
		}
		f.push(v)
	case api.OpSetBox:
		v := f.popValue()
		boxed(f.pop()).in = v
		f.push(void)
	case api.OpClosure:
		f.push(&closure{&m.ps[i.A], f.popAll(i.B)})
	case api.OpCall:
		all := f.popAll(i.A + 1)
		f.push(m.call(valued(all[0]), all[1:]))
	case api.OpPrim:
		f.push(m.prim(i.A, f.popAll(i.B)))
	case api.OpPop: // an again pops the slots of lets, boxes too
		f.pop()
	case api.OpSlide:
		v := f.popValue()
		f.popAll(i.A)
		f.push(v)
	case api.OpStore:
		f.slots[i.A] = f.pop()
	}
}

func constantOf(d api.Datum) any {
	if d.Kind == api.Symbol && d.Text == "" && d.N == -1 {
		return undefined{}
	}
	return valueOf(d)
}

// The walker: each variable has a box of its own.

type scope struct {
	up    *scope
	boxes map[int]*box
}

func (s *scope) inner() *scope { return &scope{s, map[int]*box{}} }

func (s *scope) find(v int) *box {
	for s.boxes[v] == nil {
		s = s.up
	}
	return s.boxes[v]
}

type function struct {
	c *api.Core
	s *scope
}

func (f *function) head() string { return f.c.Name }

type walker struct{ *world }

// anew is what an again comes to: its values.
type anew []any

func (w *walker) call(what any, args []any) any {
	w.enter()
	defer w.leave()
	switch f := what.(type) {
	case primValue:
		return w.prim(int(f), args)
	case *function:
		least := len(f.c.Vars)
		if f.c.Rest {
			least--
		}
		in := f.s.inner()
		for i, v := range w.arguments(f.head(), args, least, f.c.Rest) {
			in.boxes[f.c.Vars[i]] = &box{v}
		}
		return w.walk(&f.c.Subs[0], in)
	}
	panic(raised("apply " + w.told(what) + " " + w.toldRow(args)))
}

func (w *walker) all(forms []api.Core, s *scope) []any {
	var all []any
	for i := range forms {
		all = append(all, w.walk(&forms[i], s))
	}
	return all
}

func (w *walker) walk(c *api.Core, s *scope) any {
	w.step()
	switch c.Kind {
	case api.CConst:
		return valueOf(c.D[0])
	case api.CPrim:
		return primValue(c.N)
	case api.CGlobal:
		return w.global(c.Name)
	case api.CLocal:
		if v := s.find(c.N).in; v != (undefined{}) {
			return v
		}
		panic(raised("unassigned"))
	case api.CSetLoc:
		s.find(c.N).in = w.walk(&c.Subs[0], s)
		return void
	case api.CSetGlo, api.CDefine:
		return w.setGlobal(c.Name, w.walk(&c.Subs[0], s), c.Kind == api.CDefine)
	case api.CIf:
		if w.walk(&c.Subs[0], s) == false {
			return w.walk(&c.Subs[2], s)
		}
		return w.walk(&c.Subs[1], s)
	case api.CLambda:
		return &function{c, s}
	case api.CCall:
		all := w.all(c.Subs, s)
		return w.call(all[0], all[1:])
	case api.CSeq:
		all := w.all(c.Subs, s)
		return all[len(all)-1]
	case api.CAgain:
		return anew(w.all(c.Subs, s))
	}
	return w.bindings(c, s)
}

func (w *walker) bindings(c *api.Core, s *scope) any {
	n := len(c.Vars)
	in := s.inner()
	for _, v := range c.Vars {
		in.boxes[v] = &box{undefined{}}
	}
	if c.Kind == api.CRec {
		for i, v := range c.Vars {
			in.find(v).in = w.walk(&c.Subs[i], in)
		}
		return w.walk(&c.Subs[n], in)
	}
	values := w.all(c.Subs[:n], s)
	for {
		in = s.inner()
		for i, v := range c.Vars {
			in.boxes[v] = &box{values[i]}
		}
		v := w.walk(&c.Subs[n], in)
		next, ok := v.(anew)
		if !ok || c.Kind == api.CLet {
			return v
		}
		values = next
	}
}

// runs wants that a program's code comes to what its forms come to, and tells that.
func runs(t *testing.T, cores []api.Core) outcome {
	t.Helper()
	ps, e := emit.Program(cores)
	if e != api.OK {
		t.Fatalf("%s: error %d", brief(cores), e)
	}
	defined := func() *world {
		w := newWorld()
		w.globals["g"], w.globals["h"] = 1, primValue(0)
		return w
	}
	w := &walker{defined()}
	want, _ := w.ending(func() any {
		all := append([]any{void}, w.all(cores, &scope{})...)
		return all[len(all)-1]
	})
	m := &machine{defined(), ps}
	got, wrong := m.ending(func() any { return m.call(&closure{&ps[0], nil}, nil) })
	n := min(len(got.trace), len(want.trace))
	switch {
	case wrong != "":
		t.Fatalf("%s: %s\n%s", brief(cores), wrong, toldAll(ps))
	case !slices.Equal(got.trace[:n], want.trace[:n]), !got.fuel && !want.fuel && (got.end != want.end || len(got.trace) != len(want.trace)):
		t.Fatalf("%s: %+v, not %+v\n%s", brief(cores), got, want, toldAll(ps))
	}
	got.fuel = got.fuel || want.fuel
	return got
}

// P9.1: code does what the forms say.
func TestRuns(t *testing.T) {
	for _, cores := range seeds(t) {
		runs(t, cores)
	}
	for _, x := range []struct{ program, want string }{
		{"(define (sum n) (if (= n 0) 0 (+ n (sum (- n 1))))) (sum 10)", "55"},
		{"(define (count n) (let loop ((i 0) (s 0)) (if (= i n) s (loop (+ i 1) (+ s i))))) (count 10)", "45"},
		{"(do ((i 0 (+ i 1)) (s 0 (+ s i))) ((= i 10) s))", "45"},
		{"(define (counter n) (lambda () (set! n (+ n 1)) n)) (define a (counter 5)) (define b (counter 50)) (a) (a) (b) (+ (a) (b))", "60"},
		{"(letrec ((even? (lambda (n) (if (= n 0) #t (odd? (- n 1))))) (odd? (lambda (n) (if (= n 0) #f (even? (- n 1)))))) (even? 11))", "false"},
		{"(let ((f (do ((i 0 (+ i 1)) (fs #f (if (= i 1) (lambda () i) fs))) ((= i 4) fs)))) (f))", "1"},
		{"(let ((f (do ((i 0 (+ i 1)) (fs #f (if (= i 1) (lambda () (set! i (+ i 20)) i) fs))) ((= i 4) fs)))) (f) (f))", "41"},
		{"(letrec ((a b) (b 1)) a)", "raised unassigned"}, {"x", "raised unbound x"}, {"(set! x 1)", "raised unbound x"}, {"(1 2)", "raised apply 1 2"}, {"((lambda (x) x))", "raised arity  "}, {"((lambda (x . y) y) 1 2 3)", "(2 3)"},
		{"(define (f x) (define y 1) (set! x (+ x y)) (lambda (z) (set! y (+ z x)) y)) ((f 5) 10)", "16"},
	} {
		if o := runs(t, forms(t, x.program)); o.end != x.want {
			t.Errorf("%s: %s, not %s", x.program, o.end, x.want)
		}
	}
}

func TestAnyRun(t *testing.T) {
	m := maker{dice: 7}
	found := map[string]int{}
	const rounds = 15000
	for range rounds {
		o := runs(t, m.program())
		switch {
		case o.fuel:
			found["fuel"]++
		case len(o.end) > 6 && o.end[:6] == "raised":
			found["raised"]++
		default:
			found["value"]++
		}
		if len(o.trace) > 8 {
			found["long"]++
		}
	}
	for _, what := range []string{"fuel", "raised", "value", "long"} {
		if found[what] < rounds/100 {
			t.Error(found)
		}
	}
}

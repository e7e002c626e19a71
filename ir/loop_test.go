package ir_test

import (
	"strconv"
	"strings"
	"testing"

	"tandem/api"
	"tandem/ir"
)

// loopMaker makes loops that are worth being made fast: of fixnums, which are added, subtracted, multiplied, and compared.
type loopMaker struct {
	dice
	locals []string
}

// program is a procedure f with a loop, which turns so often at least when it is called.
func (l *loopMaker) program(turns int) string {
	l.locals = []string{"a", "b", "k"}
	vars := []string{"i", "u", "v", "w"}[:1+l.below(4)]
	begin, by := l.below(20)-10, 1+l.below(3)
	end := begin + by*(turns+l.below(9))
	step, test := "(+ i "+strconv.Itoa(by)+")", pick(&l.dice, "(= i END)", "(= END i)", "(>= i END)", "(<= END i)", "(> i END)", "(< END i)")
	if l.below(2) == 0 {
		begin, end = -begin, -end
		step, test = "(- i "+strconv.Itoa(by)+")", pick(&l.dice, "(= i END)", "(= END i)", "(<= i END)", "(>= END i)", "(< i END)", "(> END i)", "(>= "+strconv.Itoa(end+1)+" i END)")
	}
	boxed := pick(&l.dice, "", "", "(set! a (+ a 1)) ", "(set! k 2) ")
	bindings := []string{"(i " + strconv.Itoa(begin) + " " + step + ")"}
	outer := l.locals
	l.locals = append(outer[:3:3], vars...)
	for _, v := range vars[1:] {
		bindings = append(bindings, "("+v+" "+pick(&l.dice, "0", "1", "-7", "a", "b", "(* a b)")+" "+l.sum(2)+")")
	}
	commands := ""
	for range l.below(3) {
		commands += " " + l.sum(2)
	}
	test = strings.ReplaceAll(test, "END", strconv.Itoa(end))
	return "(define f (let ((k 3)) (lambda (a b) " + boxed + "(do (" + strings.Join(bindings, " ") + ") (" + test + " (list a k " + strings.Join(vars, " ") + "))" + commands + "))))"
}

// sum is what a step or a command may be.
func (l *loopMaker) sum(deep int) string {
	if deep == 0 || l.below(4) == 0 {
		return pick(&l.dice, append([]string{"0", "1", "-1", "5"}, l.locals...)...)
	}
	name := pick(&l.dice, "+", "+", "-", "-", "*")
	all := []string{name}
	for range pick(&l.dice, 2, 2, 2, 2, 1, 3, 4) {
		all = append(all, l.sum(deep-1))
	}
	return "(" + strings.Join(all, " ") + ")"
}

// staysSmall tells whether a run works with fixnums alone.
func staysSmall(ps []api.Proto) bool {
	m := newMachine(ps, api.Limits{Fuel: 1 << 16, Output: 100})
	o := m.run()
	return o.How == api.Value && !m.great
}

// TestLoops: a loop of fixnums is run to its end by code that is made of it on its way, or of its procedure when that was called once: no guard fails.
func TestLoops(t *testing.T) {
	l := &loopMaker{dice: dice{521288629}}
	made := 0
	for range 1500 {
		after := 1 + l.below(5)
		source := l.program(after + 1)
		ps := compiled(t, source+" (f 2 5) (f 2 5)")
		if !staysSmall(ps) {
			continue
		}
		made++
		f := len(ps) - 1
		want := newMachine(ps, api.Limits{Fuel: 1 << 16}).run()
		m := newMachine(ps, api.Limits{Fuel: 1 << 16})
		calls, turns, place := 0, 0, 0
		onItsWay := l.below(2) == 0
		m.begins = func(proto, entry int) {
			count, until := &calls, 2
			if entry > 0 {
				count, until, place = &turns, after, entry
			}
			if *count++; onItsWay == (entry > 0) && *count == until {
				m.codes[[2]int{f, entry}] = built(t, ps, f, entry, m.table.All()...)
			}
		}
		if o := m.run(); o != want || m.failed > 0 {
			t.Fatalf("%s\n got %+v\nwant %+v, %d guards failed\n%s", source, o, want, m.failed, told(m.codes[[2]int{f, place}]))
		}
		if onItsWay && (m.entered != 2 || turns != after+1) || !onItsWay && m.entered != 1 {
			t.Fatalf("%s: entered %d times, %d turns without", source, m.entered, turns)
		}
	}
	if made < 500 {
		t.Errorf("%d alone", made)
	}
}

// inLoop are how often each Op stands in a code's only loop.
func inLoop(t *testing.T, c api.Code) map[int]int {
	t.Helper()
	for end, in := range c.Ins {
		if in.Op == api.RJump && in.A <= end {
			return counts(api.Code{Ins: c.Ins[in.A : end+1]})
		}
	}
	t.Fatalf("no loop: %s", told(c))
	return nil
}

// TestRawLoops: in a loop of numbers they stay raw, whatever else is in the frame, and whatever turns within.
func TestRawLoops(t *testing.T) {
	for _, source := range []string{
		"(define (f n x) (do ((i 0 (+ i 1)) (s 0 (+ s i))) ((= i n) s)))",
		"(define (f n x) (let ((y (car x))) (do ((i 0 (+ i 1)) (s 0 (+ s i))) ((= i n) y))))",
		"(define (f n x) (do ((i 0 (+ i 1)) (s 0 (if x (+ s i) s))) ((= i n) s)))",
		"(define (f n x) (do ((i 0 (+ i 1)) (s 0 (begin (if x 1 2) (+ s i)))) ((= i n) s)))",
		"(define (f n x) (do ((i 0 (+ i 1)) (s 0 (if (= i 5) (if (< i 2) (+ s i) s) (* s 2)))) ((>= i n) s)))",
		"(define (f n x) (do ((i 0 (+ i 1)) (a 0 b) (b 1 (+ a b))) ((<= n i) a)))",
		"(define (f n x) (do ((i 0 (+ i 1)) (a 0 b) (b 1 c) (c 2 a)) ((<= n i) (+ a b))))",
	} {
		ps := compiled(t, source)
		p := named(t, ps, "f")
		for _, entry := range entries(ps, p) {
			c := built(t, ps, p, entry, ints(ps)...)
			got := inLoop(t, c)
			if got[api.RUnbox] > 0 || got[api.RPrim] > 0 || strings.Contains(source, "+ a b) b") && got[api.RBox] > 0 {
				t.Errorf("%s: %v\n%s", source, got, told(c))
			}
		}
	}
}

// TestOtherLoops: what is no number on all ways stays a value, without guards where ways meet.
func TestOtherLoops(t *testing.T) {
	for _, r := range []struct {
		source string
		args   []int64
	}{
		{"(define (f n) (do ((i 0 (+ i 1)) (x 0 (car (list i)))) ((= i n) x)))", []int64{5}},
		{"(define (f n) (do ((i 0 (+ i 1)) (x '() (cons i x))) ((= i n) x)))", []int64{5}},
		{"(define (f n) (do ((i 0 (+ i 1)) (x 'a (if (= i 1) 'b i))) ((= i n) x)))", []int64{5}},
		{"(define (f n) (do ((i 0 (+ i 1)) (x 1 (if (= i 2) (* x 4611686018427387904) x))) ((= i n) x)))", []int64{2}},
		{"(define (f n m) (do ((i 0 (+ i 1)) (x (list n) (if (= i 7) (+ i 1) x))) ((= i n) x)))", []int64{3, 4}},
		{"(define (f n m) (let ((x (list n))) (do ((i 0 (+ i 1))) ((= i n) (if (= n 100) (+ x 1) x)))))", []int64{3, 4}},
		{"(define (f n) (do ((i 0 (+ i 1)) (x 'none i)) ((= i n) x)))", []int64{5}},
	} {
		ps := compiled(t, r.source)
		p := named(t, ps, "f")
		for _, entry := range entries(ps, p) {
			m := newMachine(ps, api.Limits{Fuel: 1000}, built(t, ps, p, entry, ints(ps)...))
			m.run()
			f := frame{proto: p, begins: true, self: m.closure(p)}
			for _, n := range r.args {
				f.slots = append(f.slots, m.lay(whole(n)))
			}
			m.again(f, 1000)
			m.failed = 0
			if o := m.run(); o.How != api.Value || m.failed > 0 || m.entered == 0 {
				t.Errorf("%s from %d on: %+v, entered %d, failed %d\n%s", r.source, entry, o, m.entered, m.failed, told(m.codes[[2]int{p, entry}]))
			}
		}
	}
}

// TestInnerLoops: a loop within another is entered, whatever the other's variables have come to: no guard of them stands ahead of it.
func TestInnerLoops(t *testing.T) {
	ps := compiled(t, "(define (f n) (do ((k 0 (+ k 1)) (x 1 (* x 10))) ((= k n) x) (do ((i 0 (+ i 1))) ((= i 3)) (+ i 1))))")
	inner := entries(ps, 1)[2]
	m := newMachine(ps, api.Limits{Fuel: 1000}, built(t, ps, 1, inner, ints(ps)...))
	m.run()
	m.again(frame{proto: 1, pc: inner, self: m.closure(1), slots: []uint64{m.lay(whole(9)), m.lay(whole(8)), m.lay(whole(1 << 61)), m.lay(whole(0))}}, 1000)
	turns := 0
	m.begins = func(_, entry int) {
		if entry == inner {
			turns++
		}
	}
	if o := m.run(); o.How != api.Value || turns != 1 || m.failed != 1 {
		t.Errorf("%+v, came to the loop %d times, %d guards failed\n%s", o, turns, m.failed, told(m.codes[[2]int{1, inner}]))
	}
}

// TestIdleLoops: a loop in which nothing is done is the baseline machine's.
func TestIdleLoops(t *testing.T) {
	for _, code := range [][]api.Ins{
		{op(api.OpJump)},
		{op(api.OpLoop), op(api.OpJump)},
		{op(api.OpLocal), op(api.OpPop), op(api.OpJump)},
		{op(api.OpLoop), op(api.OpLoop), op(api.OpJump, 1)},
		{op(api.OpLoop), op(api.OpJump, 3), op(api.OpJump), op(api.OpLocal), op(api.OpStore), op(api.OpJump, 2)},
	} {
		ps := []api.Proto{plain()[0], {Args: 1, Code: code}}
		c := built(t, ps, 1, 0)
		if n := counts(c); n[api.RJump] > 0 || n[api.RExit] != 1 {
			t.Errorf("%v: %s", code, told(c))
		}
	}
	c, ok := ir.Build([]api.Proto{plain()[0], {Args: 1, Code: []api.Ins{op(api.OpLoop), op(api.OpLocal), op(api.OpFalse, 0), op(api.OpJump)}}}, 1, 0)
	if n := counts(c); !ok || n[api.RIf] != 1 {
		t.Error(told(c))
	}
}

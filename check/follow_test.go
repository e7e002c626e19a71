package check_test

import (
	"slices"
	"strconv"
	"strings"
	"testing"

	"tandem/api"
	"tandem/check"
	"tandem/emit"
	"tandem/expand"
	"tandem/read"
)

// P11.3: what follows.

// frame is where a proto's code runs; what its values are does not count.
type frame []int

func (f *frame) push(n int) { *f = append(*f, n) }

// pop panics, where there is nothing to pop.
func (f *frame) pop(n int) { *f = (*f)[:len(*f)-n] }

// stroll goes through a proto's code as a machine does, each choice by the dice, and wants at each step the depth that was told.
func stroll(t *testing.T, d *dice, ps []api.Proto, n int) {
	t.Helper()
	p, depths := ps[n], check.Depths(ps, n)
	f := make(frame, p.Args)
	if p.Rest {
		f.push(0)
	}
	pc := 0
	for range 300 {
		if len(f) != depths[pc] {
			t.Fatalf("%+v: at %d of %d the depth is %d, not %d", ps, pc, n, len(f), depths[pc])
		}
		i := p.Code[pc]
		pc++
		switch i.Op {
		case api.OpConst:
			f.push(p.Consts[i.A].Kind)
		case api.OpLocal, api.OpPick:
			f.push(f[i.A])
		case api.OpFree:
			f.push(make([]int, p.Free)[i.A])
		case api.OpGlobal:
			f.push(len(p.Names[i.A]))
		case api.OpSetGlo, api.OpDefine:
			f.pop(1)
			f.push(len(p.Names[i.A]))
		case api.OpBox, api.OpUnbox:
			f.pop(1)
			f.push(0)
		case api.OpSetBox:
			f.pop(2)
			f.push(0)
		case api.OpClosure:
			f.pop(i.B)
			f.push(ps[i.A].Args)
		case api.OpCall, api.OpSlide:
			f.pop(i.A)
			f.pop(1)
			f.push(0)
		case api.OpTail:
			f.pop(i.A + 1)
			return
		case api.OpReturn:
			f.pop(1)
			return
		case api.OpJump:
			pc = i.A
		case api.OpFalse:
			f.pop(1)
			if d.below(2) == 0 {
				pc = i.A
			}
		case api.OpPrim:
			f.pop(i.B)
			f.push(api.Prims()[i.A].Least)
		case api.OpPop:
			f.pop(1)
		case api.OpStore:
			v := f[len(f)-1]
			f.pop(1)
			f[i.A] = v
		case api.OpLoop:
		default:
			t.Fatalf("%+v: at %d of %d is no instruction", ps, pc-1, n)
		}
	}
}

// What is right never pops what is not there.
func TestStrolls(t *testing.T) {
	m := maker{dice: 7}
	for n := range 8000 {
		ps := m.program()
		if n%2 == 0 {
			m.turn(ps)
		}
		if judged(ps...).e != api.OK {
			continue
		}
		for p := range ps {
			for range 4 {
				stroll(t, &m.dice, ps, p)
			}
		}
	}
}

// Turning an unreached instruction turns nothing.
func TestUnreachedTurned(t *testing.T) {
	m := maker{dice: 8}
	turned := 0
	for range 5000 {
		ps := m.program()
		m.turn(ps)
		if judged(ps...).e != api.OK {
			continue
		}
		var before [][]int
		for p := range ps {
			before = append(before, check.Depths(ps, p))
		}
		for p, depths := range before {
			for pc, d := range depths {
				if d == -1 {
					ps[p].Code[pc] = api.Ins{Op: m.number(7), A: m.number(0), B: m.number(0)}
					turned++
				}
			}
		}
		for p, want := range before {
			if got := check.Depths(ps, p); !slices.Equal(got, want) {
				t.Fatalf("%+v: %v, not %v", ps, got, want)
			}
		}
	}
	if turned < 500 {
		t.Errorf("%d turned", turned)
	}
}

// made is the code of a source; none, if it is no program.
func made(source string) []api.Proto {
	data, _, e := read.All(source)
	if e != api.OK {
		return nil
	}
	forms, _, e := expand.Program(data)
	if e != api.OK {
		return nil
	}
	ps, _ := emit.Program(forms)
	return ps
}

func rightSource(t *testing.T, d *dice, source string) {
	t.Helper()
	ps := made(source)
	if ps == nil {
		t.Fatalf("%s: no program", source)
	}
	if same(t, ps) != api.OK {
		t.Fatalf("%s: %+v", source, judged(ps...))
	}
	for p := range ps {
		stroll(t, d, ps, p)
	}
}

// Code that layer 9 makes is right.
func TestSources(t *testing.T) {
	d := dice(9)
	for _, source := range []string{
		"", "1", "'(a b)", "(define x 1) (set! x 2) x", "(car x)", "car", "(lambda (x) x)", "(lambda x x)", "(lambda (x y . z) (list x y z))",
		"(define (fact n) (if (= n 0) 1 (* n (fact (- n 1))))) (fact 25)",
		"(do ((i 0 (+ i 1))) ((= i 3) i))", "(do ((i 0 (+ i 1)) (s '() (cons (lambda () i) s))) ((= i 3) s) (set! i (+ i 1)))",
		"(let loop ((i 0)) (if (< i 9) (let ((j i)) (let ((k j)) (loop (+ k 1))))))", "(lambda (n) (let loop ((i 0)) (if (< i n) (loop (+ i 1)) (loop 0))))",
		"(let loop ((i 0)) (loop i))", "(list (let loop ((i 0)) (if (car i) (loop i) 7)) 8)",
		"(letrec ((even (lambda (n) (if (= n 0) #t (odd (- n 1))))) (odd (lambda (n) (if (= n 0) #f (even (- n 1)))))) (even 9))",
		"(define (f x) (define a x) (define (g y) (set! a (+ a y)) a) (g (g x))) (f 1)",
		"(dynamic-wind (lambda () 1) (lambda () (call/cc (lambda (k) (k 7)))) (lambda () 2))",
		"(define-syntax swap (syntax-rules () ((_ a b) (let ((t a)) (set! a b) (set! b t))))) (define t 1) (define u 2) (swap t u) (list t u)",
		"(cond ((assv 1 '()) => cdr) ((f) 2) (else 3))", "(case x ((1 2) 3) (else 4))", "(and 1 (or 2 3) (when 4 5) (unless 6 7))", "`(1 ,x ,@y)",
		api.Prelude, api.Prelude + "(map (lambda (x) (+ x 1)) '(1 2 3))",
	} {
		rightSource(t, &d, source)
	}
}

// teller tells sources.
type teller struct {
	dice
	vars []string
}

func (s *teller) pick(of ...string) string { return of[s.below(len(of))] }

// name is a new variable's; most are told apart by their number.
func (s *teller) name() string { return "v" + strconv.Itoa(s.below(9)) }

// within tells a form in which a variable stands for a while.
func (s *teller) within(name string, tell func() string) string {
	s.vars = append(s.vars, name)
	text := tell()
	s.vars = s.vars[:len(s.vars)-1]
	return text
}

func (s *teller) form(deep int) string {
	if deep == 0 {
		return s.pick(append(s.vars, "1", "#f", "'(a)", "g", "car", "\"\"")...)
	}
	sub := func() string { return s.form(deep - 1) }
	switch name := s.name(); s.below(13) {
	case 0:
		return "(if " + sub() + " " + sub() + " " + sub() + ")"
	case 1:
		return "(let ((" + name + " " + sub() + ")) " + s.within(name, sub) + ")"
	case 2:
		return s.within(name, func() string { return "(letrec ((" + name + " " + sub() + ")) " + sub() + ")" })
	case 3:
		return s.within(name, func() string {
			return "(lambda " + s.pick("("+name+")", name, "(w . "+name+")") + " " + sub() + " " + sub() + ")"
		})
	case 4:
		return "(let again ((" + name + " " + sub() + ")) " + s.within(name, func() string { return "(if " + sub() + " (again " + sub() + ") " + sub() + ")" }) + ")"
	case 5:
		return "(do ((" + name + " " + sub() + " (cdr " + name + "))) " + s.within(name, func() string { return "(" + sub() + " " + sub() + ") " + sub() }) + ")"
	case 6:
		return "(set! " + s.pick(append(s.vars, "g")...) + " " + sub() + ")"
	case 7:
		return "(begin " + sub() + " " + sub() + ")"
	case 8:
		return "(" + sub() + strings.Repeat(" "+sub(), s.below(4)) + ")"
	case 9:
		return "(cons " + sub() + " " + sub() + ")"
	case 10:
		return "(+" + strings.Repeat(" "+sub(), s.below(4)) + ")"
	case 11:
		return s.within(name, func() string { return "((lambda () (define " + name + " " + sub() + ") " + sub() + "))" })
	default:
		return "(let again ((" + name + " " + sub() + ") (w 0)) " + s.within(name, func() string {
			return "(let ((u " + sub() + ")) (if u (again " + sub() + " " + sub() + ") (let ((x 1)) (again x u))))"
		}) + ")"
	}
}

func TestToldSources(t *testing.T) {
	s := teller{dice: 10}
	for range 2500 {
		text := s.form(1 + s.below(5))
		for range s.below(3) {
			text += " (define g " + s.form(1+s.below(3)) + ")"
		}
		rightSource(t, &s.dice, text)
	}
}

// Code that is as long or as deep as layer 9 makes it.
func TestGreatSources(t *testing.T) {
	d := dice(11)
	rightSource(t, &d, "(f"+strings.Repeat(" x", api.MaxArgs)+")")
	rightSource(t, &d, "(lambda () "+strings.Repeat("(if x ", 60)+"1"+strings.Repeat(" 2)", 60)+")")
	args := make([]string, api.MaxArgs)
	for i := range args {
		args[i] = "a" + strconv.Itoa(i)
	}
	all := strings.Join(args, " ")
	rightSource(t, &d, "(lambda ("+all+") (lambda () (list "+all+")))")
	rightSource(t, &d, "(lambda ("+strings.Join(args[1:], " ")+" . a0) (set! a0 1) (+ "+all+"))")
	rightSource(t, &d, strings.Repeat("(+ x 1) ", 4000))
}

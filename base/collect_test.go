package base_test

import (
	"math"
	"strings"
	"testing"

	"tandem/api"
	"tandem/base"
)

// busy are programs that hold values in all places in which a machine may hold them.
func busy() []string {
	return []string{
		"(define (f l . r) (if (null? r) (reverse l) (apply f (cons (car r) l) (cdr r)))) (display (f '() \"a\" 'b (expt 3 60))) (f (list 1 2) (vector 3))",
		"(define k #f) (define n 0) (define (mk x) (lambda (y) (set! x (cons y x)) (list x y \"t\" 'sym (expt 3 50)))) (define f (mk '())) (let loop ((i 0)) (if (< i 6) (begin (display (f i)) (call/cc (lambda (c) (if (= i 3) (set! k c)))) (loop (+ i 1))))) (set! n (+ n 1)) (if (< n 2) (k 0)) (f 'end)",
		wind + "(define ks '()) (define n 0) (define (visit n) (w (list n) (lambda () (if (= n 0) (call/cc (lambda (c) (set! ks (cons c ks)) \"x\")) (list n (visit (- n 1))))))) (display (visit 3)) (set! n (+ n 1)) (if (< n 3) ((car ks) (expt 7 30))) (if (= n 3) (w (list 'a) (lambda () (visit 1) ((car (cdr ks)) (vector n))))) 'end",
		"(define (g l) (with-exception-handler (lambda (e) (list \"handled\" e (raise-continuable (list e)))) (lambda () (list 1 (raise-continuable l) (vector l))))) (with-exception-handler (lambda (e) (cons 'outer e)) (lambda () (g (list \"a\" (expt 2 70)))))",
		"(call/cc (lambda (out) (with-exception-handler (lambda (e) (out (list e (condition-irritants e)))) (lambda () (dynamic-wind (lambda () (display 'in)) (lambda () (error \"message\" (list 1 2) (expt 5 40) (lambda () out))) (lambda () (display 'out)))))))",
		"(call/cc (lambda (out) (with-exception-handler (lambda (e) (display (condition-class e)) (out e)) (lambda () (with-exception-handler (lambda (e) (display e) (list e)) (lambda () (dynamic-wind void (lambda () (raise (list 'a \"b\"))) void)))))))",
		"(letrec ((even? (lambda (n) (if (= n 0) (list \"even\") (odd? (- n 1))))) (odd? (lambda (n) (if (= n 0) (list \"odd\") (even? (- n 1)))))) (list (even? 7) (even? 10)))",
		"((lambda (a b . c) (5 a b c)) (list 1) \"b\" (expt 9 30) 'd)",
	}
}

// TestOrder: at every step the heap is in order, and so are the roots; whatever is collected, and how often.
func TestOrder(t *testing.T) {
	for _, source := range busy() {
		ps := compiled(t, source)
		want := base.Run(ps, ample())
		if want.How != api.Value && want.How != api.Raised {
			t.Fatalf("%s: %s", source, told(want))
		}
		for _, every := range []int{0, 1, 2, 5} {
			l := api.Limits{Words: 1000, Fuel: 10000, Output: 10000}
			if every > 0 {
				for i := 0; i < 3000; i += every {
					l.Gc = append(l.Gc, i)
				}
			}
			m := made(t, ps, l)
			for goes := true; goes; {
				goes = m.Step(1)
				if bad := disorder(m.Words(), m.Roots()); bad >= 0 {
					t.Fatalf("%s, step %d: the heap at %d", source, m.Count(), bad)
				}
				if !strings.HasPrefix(want.Output, m.Outcome().Output) {
					t.Fatalf("%s, step %d: %s", source, m.Count(), told(m.Outcome()))
				}
			}
			if m.Outcome() != want {
				t.Errorf("%s, every %d:\n got %s\nwant %s", source, every, told(m.Outcome()), told(want))
			}
		}
	}
}

// TestForced: there is a collection ahead of each instruction that is named, for each time that it is named.
func TestForced(t *testing.T) {
	ps := compiled(t, "(list 1 2)") // const, const, prim, return
	for _, c := range []struct {
		gc   []int
		want []int // how many there were behind each instruction
	}{
		{nil, []int{0, 0, 0, 0}},
		{[]int{0}, []int{1, 1, 1, 1}},
		{[]int{3}, []int{0, 0, 0, 1}},
		{[]int{4}, []int{0, 0, 0, 0}},
		{[]int{2, 0}, []int{1, 1, 2, 2}},
		{[]int{1, 1, 1}, []int{0, 3, 3, 3}},
		{[]int{3, 1, 2, 1, 0}, []int{1, 3, 4, 5}},
		{[]int{-1, -5, math.MinInt, math.MaxInt, 9, 1}, []int{0, 1, 1, 1}},
	} {
		l := ample()
		l.Gc = c.gc
		m := made(t, ps, l)
		for i, want := range c.want {
			if m.Step(1) != (i < 3) || m.Times() != want {
				t.Errorf("%v: %d behind %d", c.gc, m.Times(), i)
			}
		}
		m.Step(5)
		if m.Times() != c.want[3] {
			t.Errorf("%v: %d at the end", c.gc, m.Times())
		}
	}
	// Where there is no instruction any more, none is ahead of it.
	m := made(t, ps, api.Limits{Words: 64, Fuel: 2, Gc: []int{0, 2, 3}})
	for m.Step(1) {
	}
	if m.Times() != 1 || m.Outcome().How != api.Fuel {
		t.Errorf("%d, %s", m.Times(), told(m.Outcome()))
	}
}

// TestCollectedWhenFull: without being asked the machine collects where there is no room, and only there.
func TestCollectedWhenFull(t *testing.T) {
	ps := compiled(t, "(define (f i) (if (= i 0) 'end (begin (list 1 2 3) (f (- i 1))))) (f 100)")
	few, many := made(t, ps, api.Limits{Words: 100, Fuel: 100000}), made(t, ps, api.Limits{Words: 10000, Fuel: 100000})
	few.Step(100000)
	many.Step(100000)
	if few.Times() < 900/100 || many.Times() != 0 || few.Outcome() != many.Outcome() || few.Outcome().Text != "end" {
		t.Errorf("%d, %d: %s, %s", few.Times(), many.Times(), told(few.Outcome()), told(many.Outcome()))
	}
}

// TestRoots: behind a collection what is on the heap is just what is reached from the roots.
func TestRoots(t *testing.T) {
	consts := []api.Datum{text("a"), whole(7), text("b")}
	list := op(api.OpPrim, 42, 1)
	for name, c := range map[string]struct {
		want int // objects
		ins  []api.Ins
	}{
		"a slot":            {2, []api.Ins{op(api.OpConst, 0), list}},
		"what is popped":    {0, []api.Ins{op(api.OpConst, 1), list, op(api.OpPop)}},
		"a popped constant": {1, []api.Ins{op(api.OpConst, 0), op(api.OpPop)}},
		"a global":          {2, []api.Ins{op(api.OpConst, 0), list, op(api.OpDefine, 0), op(api.OpPop)}},
		"a global's old":    {1, []api.Ins{op(api.OpConst, 0), list, op(api.OpDefine, 0), op(api.OpConst, 1), op(api.OpSetGlo, 0)}},
		"a box":             {2, []api.Ins{op(api.OpConst, 1), list, op(api.OpBox)}},
		"a closure":         {1, []api.Ins{op(api.OpClosure, 0)}},
		"what was handed":   {1, []api.Ins{op(api.OpConst, 1), list, op(api.OpPrim, 43, 1), op(api.OpConst, 2)}},
		"a stored one":      {1, []api.Ins{op(api.OpConst, 1), list, op(api.OpConst, 2), op(api.OpStore, 0)}},
	} {
		l := ample()
		l.Gc = []int{len(c.ins)}
		m := made(t, code(consts, append(c.ins, op(api.OpLoop), op(api.OpConst, 1), op(api.OpReturn))...), l)
		m.Step(len(c.ins) + 1)
		if m.Times() != 1 || reached(m.Words(), m.Roots()) != c.want || objects(m.Words()) != c.want {
			t.Errorf("%s: %d objects, %d are reached", name, objects(m.Words()), reached(m.Words(), m.Roots()))
		}
	}
}

// objects is how many there are.
func objects(words []uint64) int {
	n := 0
	for at := 1; at < len(words); n++ {
		at += 1 + int(words[at]>>8&(1<<24-1)) + int(words[at]>>32&(1<<24-1))
	}
	return n
}

// reached is how many objects are reached from the roots.
func reached(words, roots []uint64) int {
	seen := map[uint64]int{}
	for len(roots) > 0 {
		w := roots[0]
		roots = roots[1:]
		if w&3 != 0 || seen[w] > 0 {
			continue
		}
		seen[w]++
		for i := range int(words[w/4] >> 8 & (1<<24 - 1)) {
			roots = append(roots, words[int(w/4)+1+i])
		}
	}
	return len(seen)
}

package base_test

import (
	"math"
	"strings"
	"testing"

	"tandem/api"
	"tandem/base"
	"tandem/check"
)

// TestNewLimits: which limits may be.
func TestNewLimits(t *testing.T) {
	ps := compiled(t, "1")
	for i, l := range []api.Limits{{Words: 64}, {Words: api.MaxWords}, {Words: 64, Fuel: 1 << 40}, {Words: 64, Output: 1 << 40}, {Words: 64, Fuel: 1, Output: 1, Gc: []int{-1, 5, math.MaxInt, math.MinInt}}} {
		m, e := base.New(ps, l)
		if m == nil || e != api.OK {
			t.Fatalf("%d: error %d", i, e)
		}
		if m.Count() != 0 || m.Times() != 0 || m.Outcome() != (api.Outcome{}) || len(m.Words()) != 1 {
			t.Errorf("%d: it has done something", i)
		}
	}
	for i, l := range []api.Limits{{Words: 63}, {Words: 0}, {Words: -1}, {Words: math.MinInt}, {Words: api.MaxWords + 1}, {Words: math.MaxInt}, {Words: 64, Fuel: -1}, {Words: 64, Fuel: 1<<40 + 1}, {Words: 64, Fuel: math.MinInt}, {Words: 64, Output: -1}, {Words: 64, Output: 1<<40 + 1}, {Words: 64, Output: math.MaxInt}} {
		// The limits are told ahead of the code.
		for _, ps := range [][]api.Proto{ps, nil, {{}}} {
			if m, e := base.New(ps, l); m != nil || e != api.ErrArg {
				t.Errorf("%d: error %d", i, e)
			}
			if o := base.Run(ps, l); o != (api.Outcome{How: api.Static, Err: api.ErrArg}) {
				t.Errorf("%d: %+v", i, o)
			}
		}
	}
}

// TestNewCode: code that is not right is refused with check's error.
func TestNewCode(t *testing.T) {
	wrong := map[string][]api.Proto{
		"none":        nil,
		"no code":     {{}},
		"no op":       code(nil, op(0)),
		"empty":       code(nil, op(api.OpReturn)),
		"behind":      code([]api.Datum{whole(1)}, op(api.OpConst, 0)),
		"constant":    code(nil, op(api.OpConst, 0), op(api.OpReturn)),
		"jump":        code(nil, op(api.OpJump, 5)),
		"control":     code([]api.Datum{whole(1)}, op(api.OpConst, 0), op(api.OpPrim, 89, 1), op(api.OpReturn)),
		"second":      append(compiled(t, "1"), api.Proto{Code: []api.Ins{op(api.OpReturn)}}),
		"arguments":   {{Args: 1, Code: []api.Ins{op(api.OpReturn)}}},
		"free values": code(nil, op(api.OpFree, 0), op(api.OpReturn)),
	}
	seen := map[api.Errno]int{}
	for name, ps := range wrong {
		_, _, want := check.Program(ps)
		seen[want]++
		if m, e := base.New(ps, ample()); m != nil || e != want || e == api.OK {
			t.Errorf("%s: error %d, not %d", name, e, want)
		}
		if o := base.Run(ps, ample()); o != (api.Outcome{How: api.Static, Err: want}) {
			t.Errorf("%s: %+v", name, o)
		}
	}
	for _, e := range []api.Errno{api.ErrCode, api.ErrStack, api.ErrJump, api.ErrIndex, api.ErrKind} {
		if seen[e] == 0 {
			t.Errorf("error %d is not seen", e)
		}
	}
}

// TestFuel: it ends when as many instructions were done as it says, unless that has ended the run.
func TestFuel(t *testing.T) {
	ps := compiled(t, "(display 1) (display 2) 3")
	all := made(t, ps, ample())
	for all.Step(1) {
	}
	n := all.Count()
	for fuel := range n + 3 {
		l := ample()
		l.Fuel = fuel
		m := made(t, ps, l)
		steps := 0
		for m.Step(1) {
			steps++
		}
		want := "fuel"
		if fuel >= n {
			want = "value"
		}
		if got := told(m.Outcome()); !strings.HasPrefix(got, want) || m.Count() != min(fuel, n) || steps != max(min(fuel, n)-1, 0) {
			t.Errorf("fuel %d: %s, %d done", fuel, got, m.Count())
		}
		if o := base.Run(ps, l); o != m.Outcome() {
			t.Errorf("fuel %d: %+v", fuel, o)
		}
		if !strings.HasPrefix("12", m.Outcome().Output) {
			t.Errorf("fuel %d: %s", fuel, m.Outcome().Output)
		}
	}
	// Without any it does not even go on by no instruction.
	m := made(t, ps, api.Limits{Words: 64})
	if m.Step(0) || m.Outcome().How != api.Fuel || m.Count() != 0 {
		t.Error(told(m.Outcome()))
	}
}

// TestInstructionsAreCounted: calls of handlers, befores and afters are no instructions; one that ends the run counts.
func TestInstructionsAreCounted(t *testing.T) {
	for source, want := range map[string]int{
		"1":                             2, // const, return
		"(car 5)":                       2, // const, prim
		"x":                             1,
		"(+ 1 2)":                       4,
		"(dynamic-wind void void void)": 6, // four consts, call, return
		"(with-exception-handler void (lambda () (raise-continuable 5)))": 8, // const, const, closure, call; const, const, tail; return
		"(raise 5)": 3,
	} {
		m := made(t, compiled(t, source), ample())
		for m.Step(1) {
		}
		if m.Count() != want {
			t.Errorf("%s: %d, not %d", source, m.Count(), want)
		}
	}
}

// TestStep: at most n instructions, and no more than there are.
func TestStep(t *testing.T) {
	ps := compiled(t, "(define (f i) (if (= i 0) 'end (begin (display i) (f (- i 1))))) (f 9)")
	want := base.Run(ps, ample())
	count := 0
	for m := made(t, ps, ample()); m.Step(1); {
		count++
	}
	for _, n := range []int{1, 2, 3, 7, count, count + 1, math.MaxInt} {
		m := made(t, ps, ample())
		done := 0
		for m.Step(n) {
			done += n
			if m.Count() != done || m.Outcome().How != 0 || m.Outcome().Text != "" {
				t.Fatalf("by %d: %d done, %+v", n, m.Count(), m.Outcome())
			}
			for _, none := range []int{0, -1, math.MinInt} {
				if !m.Step(none) || m.Count() != done {
					t.Fatalf("step %d does something", none)
				}
			}
		}
		if m.Outcome() != want || m.Count() != count+1 {
			t.Errorf("by %d: %d done, %+v", n, m.Count(), m.Outcome())
		}
		if m.Step(5) || m.Step(0) || m.Outcome() != want || m.Count() != count+1 {
			t.Error("it goes on behind its end")
		}
	}
}

// TestOutput: the first bytes go out, as many as may.
func TestOutput(t *testing.T) {
	ps := compiled(t, "(display \"abc\") (display \"\") (write \"d\") (newline) (write-char #\\e) 'end")
	all := "abc\"d\"\ne"
	for n := range len(all) + 3 {
		l := ample()
		l.Output = n
		want := api.Outcome{How: api.Value, Output: all, Text: "end"}
		if n < len(all) {
			want = api.Outcome{How: api.Bound, Output: all[:n]}
		}
		if o := base.Run(ps, l); o != want {
			t.Errorf("%d: %+v", n, o)
		}
	}
	// What follows what would go out is not done.
	l := ample()
	l.Output = 2
	if got := told(base.Run(compiled(t, "(display 1) (let ((d display)) (d 234)) (car 5)"), l)); got != "bound |12|" {
		t.Error(got)
	}
	if got := told(base.Run(compiled(t, "(dynamic-wind void (lambda () (display 123)) void)"), l)); got != "bound |12|" {
		t.Error(got)
	}
}

// TestMemory: what does not fit.
func TestMemory(t *testing.T) {
	small := api.Limits{Words: 4096, Fuel: 1 << 20, Output: 100}
	for _, s := range []string{
		"(define (d n) (+ 1 (d n))) (d 0)",
		"(let loop ((l '())) (loop (cons 1 l)))",
		"(make-vector 5000)",
		"(make-vector 4095)",
		"(let ((m make-vector)) (m 5000))",
		"(define (f l) (f (lambda () l))) (f 0)",
		"(define (f x) (set! x (lambda () x)) (f x)) (define (g l) (g (cons (lambda () l) l))) (g 0)",
		"(define (f n) (with-exception-handler list (lambda () (f n) 1))) (f 0)",
		"(define (f n) (dynamic-wind void (lambda () (f n) 1) void)) (f 0)",
		"(define (f n) (dynamic-wind (lambda () (f n)) void void)) (f 0)",
		"(define (f n) (with-exception-handler (lambda (e) (f n) 1) (lambda () (raise-continuable 1)))) (f 0)",
		"(define (f n) (with-exception-handler (lambda (e) (f n) 1) (lambda () (car 1)))) (f 0)",
		"(define (f n) (call/cc (lambda (k) (f n) 1))) (f 0)",
		"(define ks '()) (define (f n) (call/cc (lambda (k) (set! ks (cons k ks)))) (f n)) (f 0)",
		"(define (f n) (call/cc (lambda (k) (dynamic-wind void (lambda () (k 1)) (lambda () (f n)))))) (f 0)",
		"(define (f l) (f (apply list 1 l))) (f '())",
		"(define (f . r) (apply f 1 r)) (f)",
		"(define (f i) (string->symbol (number->string i)) (f (+ i 1))) (f 0)",
		"(define (f s) (f (string-append s s))) (f \"a\")",
	} {
		o := base.Run(compiled(t, s), small)
		if o.How != api.Memory && !(strings.Contains(s, "apply") && o.How == api.Bound) || o.Text != "" {
			t.Errorf("%s: %s", s, told(o))
		}
	}
	if o := base.Run(compiled(t, "(make-vector 4094) 1"), small); o.How != api.Value {
		t.Error(told(o))
	}
	// A constant that does not fit is no constant that is refused.
	long := code([]api.Datum{text(strings.Repeat("a", 1000))}, op(api.OpConst, 0), op(api.OpReturn))
	if o := base.Run(long, api.Limits{Words: 100, Fuel: 10}); o.How != api.Memory {
		t.Error(told(o))
	}
	mixed := code([]api.Datum{{Kind: api.Vector, Items: []api.Datum{text(strings.Repeat("a", 1000)), {}}}}, op(api.OpConst, 0), op(api.OpReturn))
	if o := base.Run(mixed, api.Limits{Words: 100, Fuel: 10}); o.How != api.Bound {
		t.Error(told(o))
	}
}

// TestSlots: all frames together have at most as many slots as there are words.
func TestSlots(t *testing.T) {
	consts := []api.Datum{whole(1)}
	for n, how := range map[int]int{63: api.Value, 64: api.Value, 65: api.Memory} {
		var ins []api.Ins
		for range n {
			ins = append(ins, op(api.OpConst, 0))
		}
		if o := base.Run(code(consts, append(ins, op(api.OpReturn))...), api.Limits{Words: 64, Fuel: 100}); o.How != how {
			t.Errorf("%d slots: %s", n, told(o))
		}
	}
	// Two frames: those of the first, but for what is popped by the call, and those of the second.
	for n, how := range map[int]int{59: api.Value, 60: api.Value, 61: api.Memory} {
		var ins []api.Ins
		for range n {
			ins = append(ins, op(api.OpConst, 0))
		}
		ins = append(ins, op(api.OpClosure, 1), op(api.OpConst, 0), op(api.OpConst, 0), op(api.OpCall, 2), op(api.OpReturn))
		ps := []api.Proto{{Consts: consts, Code: ins}, {Args: 2, Consts: consts, Code: []api.Ins{op(api.OpConst, 0), op(api.OpConst, 0), op(api.OpReturn)}}}
		if o := base.Run(ps, api.Limits{Words: 64, Fuel: 100}); o.How != how {
			t.Errorf("%d slots: %s", n, told(o))
		}
	}
	// Frames without slots end too.
	if o := base.Run(compiled(t, "(define (f) (f) 1) (f)"), api.Limits{Words: 64, Fuel: 1 << 22}); o.How != api.Memory {
		t.Error(told(o))
	}
	// Those that a continuation has put back count.
	for times, how := range map[string]int{"190": api.Value, "200": api.Memory} {
		source := "(define k #f) (define n 0) (define (e n) (if (= n 0) 0 (+ 1 (e (- n 1))))) (define (d m) (if (= m 0) (begin (call/cc (lambda (c) (set! k c))) (set! n (+ n 1)) (if (= n 2) (e " + times + ") 0)) (+ 1 (d (- m 1))))) (d 60) (if (= n 1) (k 0)) n"
		if o := base.Run(compiled(t, source), api.Limits{Words: 512, Fuel: 10000}); o.How != how {
			t.Errorf("%s: %s", times, told(o))
		}
	}
	// Those that a continuation holds count as well.
	if o := base.Run(compiled(t, "(define (d n) (if (= n 0) (call/cc (lambda (k) (e 60))) (+ 1 (d (- n 1))))) (define (e n) (if (= n 0) 0 (+ 1 (e (- n 1))))) (d 30)"), api.Limits{Words: 256, Fuel: 10000}); o.How != api.Value {
		t.Error(told(o))
	}
	if o := base.Run(compiled(t, "(define (d n) (if (= n 0) (call/cc (lambda (k) (e 120))) (+ 1 (d (- n 1))))) (define (e n) (if (= n 0) 0 (+ 1 (e (- n 1))))) (d 30)"), api.Limits{Words: 256, Fuel: 10000}); o.How != api.Memory {
		t.Error(told(o))
	}
}

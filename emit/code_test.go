package emit_test

import (
	"reflect"
	"strings"
	"testing"

	"tandem/api"
	"tandem/num"
)

// source is a program, and the code of its protos.
type source struct {
	program string
	want    []string
}

func sources(t *testing.T, all []source) {
	t.Helper()
	for _, s := range all {
		codes(t, []row{{forms(t, s.program), s.want}})
	}
}

// The chapter's examples.
func TestExamples(t *testing.T) {
	sources(t, []source{
		{"(car x)", []string{"global 0, prim 38 1, return"}},
		{"(lambda (x) x)", []string{"closure 1 0, return", "local 0, return"}},
		{"(do ((i 0 (+ i 1))) ((= i 3) i))", []string{"const 0, loop, local 0, const 1, prim 3 2, false 8, local 0, jump 13, local 0, const 2, prim 0 2, store 0, jump 1, slide 1, return"}},
	})
	p := made(t, forms(t, "(do ((i 0 (+ i 1))) ((= i 3) i))")...)[0]
	if got := toldProto(p)[:11]; got != "/0/0 '0 '3 " {
		t.Error(got)
	}
}

func plainSources() []source {
	return []source{
		{"", []string{"const 0, return"}},
		{"5", []string{"const 0, return"}}, {"x", []string{"global 0, return"}}, {"car", []string{"const 0, return"}}, {"error", []string{"const 0, return"}},
		{"1 2 1", []string{"const 0, pop, const 1, pop, const 0, return"}},
		{"x y x", []string{"global 0, pop, global 1, pop, global 0, return"}},
		{"(set! x y)", []string{"global 0, setglo 1, return"}}, {"(define x x)", []string{"global 0, define 0, return"}}, {"(define x 1) (set! y x) x", []string{"const 0, define 0, pop, global 0, setglo 1, pop, global 0, return"}},
		{"(if 1 2 3)", []string{"const 0, false 4, const 1, jump 5, const 2, return"}}, {"(if 1 2)", []string{"const 0, false 4, const 1, jump 5, const 2, return"}},
		{"(if (if a b c) (if d e f) (if g h i))", []string{"global 0, false 4, global 1, jump 5, global 2, false 12, global 3, false 10, global 4, jump 11, global 5, jump 17, global 6, false 16, global 7, jump 17, global 8, return"}},
		{"(f (begin 1 2 3))", []string{"global 0, const 0, pop, const 1, pop, const 2, call 1, return"}},
		{"(begin 1 2) 3", []string{"const 0, pop, const 1, pop, const 2, return"}},
	}
}

func callSources() []source {
	return []source{
		{"(f)", []string{"global 0, call 0, return"}}, {"(f 1 x)", []string{"global 0, const 0, global 1, call 2, return"}}, {"((f 1) (g 2))", []string{"global 0, const 0, call 1, global 1, const 1, call 1, call 1, return"}},
		{"(+)", []string{"prim 0 0, return"}}, {"(+ 1 2 3)", []string{"const 0, const 1, const 2, prim 0 3, return"}}, {"(-)", []string{"const 0, call 0, return"}}, {"(- 1)", []string{"const 0, prim 1 1, return"}},
		{"(car)", []string{"const 0, call 0, return"}}, {"(car 1 2)", []string{"const 0, const 1, const 2, call 2, return"}}, {"(cons 1 2)", []string{"const 0, const 1, prim 37 2, return"}}, {"(make-vector)", []string{"const 0, call 0, return"}}, {"(make-vector 1)", []string{"const 0, prim 55 1, return"}}, {"(make-vector 1 2)", []string{"const 0, const 1, prim 55 2, return"}}, {"(make-vector 1 2 3)", []string{"const 0, const 1, const 2, const 3, call 3, return"}}, {"(newline)", []string{"prim 78 0, return"}}, {"(newline 1)", []string{"const 0, const 1, call 1, return"}},
		{"(void)", []string{"prim 84 0, return"}}, {"(void 1)", []string{"const 0, prim 84 1, return"}}, {"(apply f x)", []string{"const 0, global 0, global 1, call 2, return"}}, {"(call/cc f)", []string{"const 0, global 0, call 1, return"}}, {"(dynamic-wind a b c)", []string{"const 0, global 0, global 1, global 2, call 3, return"}}, {"(with-exception-handler a b)", []string{"const 0, global 0, global 1, call 2, return"}}, {"(raise 1)", []string{"const 0, const 1, call 1, return"}}, {"(raise-continuable 1)", []string{"const 0, const 1, call 1, return"}}, {"(error 1 2)", []string{"const 0, const 1, const 2, call 2, return"}},
		{"(list (car x) (f (cdr x)))", []string{"global 0, prim 38 1, global 1, global 0, prim 39 1, call 1, prim 42 2, return"}},
		{"((lambda (x) x) 1)", []string{"closure 1 0, const 0, call 1, return", "local 0, return"}},
		{"(lambda () (f 1))", []string{"closure 1 0, return", "global 0, const 0, tail 1"}}, {"(lambda () (car 1))", []string{"closure 1 0, return", "const 0, prim 38 1, return"}}, {"(lambda () (car))", []string{"closure 1 0, return", "const 0, tail 0"}}, {"(lambda (f) (apply f f))", []string{"closure 1 0, return", "const 0, local 0, local 0, tail 2"}}, {"(lambda (f) (f (f 1)))", []string{"closure 1 0, return", "local 0, local 0, const 0, call 1, tail 1"}},
	}
}

func tailSources() []source {
	return []source{
		{"(lambda () 1 2)", []string{"closure 1 0, return", "const 0, pop, const 1, return"}}, {"(lambda () (set! x 1))", []string{"closure 1 0, return", "const 0, setglo 0, return"}}, {"(lambda () (lambda () car))", []string{"closure 1 0, return", "closure 2 0, return", "const 0, return"}},
		{"(lambda (f) (if f (f 1) 2))", []string{"closure 1 0, return", "local 0, false 5, local 0, const 0, tail 1, const 1, return"}}, {"(lambda (f) (if (f) (begin (f) (f)) (if 1 2 (f))))", []string{"closure 1 0, return", "local 0, call 0, false 8, local 0, call 0, pop, local 0, tail 0, const 0, false 12, const 1, return, local 0, tail 0"}}, {"(lambda (f) (car (if f (f) 2)))", []string{"closure 1 0, return", "local 0, false 5, local 0, call 0, jump 6, const 0, prim 38 1, return"}},
		{"(lambda () (let ((x 1)) x))", []string{"closure 1 0, return", "const 0, local 0, return"}}, {"(lambda () (let ((x 1)) (x)))", []string{"closure 1 0, return", "const 0, local 0, tail 0"}}, {"(lambda () (letrec ((x 1)) (x)))", []string{"closure 1 0, return", "const 0, box, pick 0, const 1, setbox, pop, pick 0, unbox, tail 0"}}, {"(lambda (x) (or x (x)))", []string{"closure 1 0, return", "local 0, local 1, false 5, local 1, return, local 0, tail 0"}},
		{"(lambda () (if (let ((x 1)) (x)) 2 3))", []string{"closure 1 0, return", "const 0, local 0, call 0, slide 1, false 7, const 1, return, const 2, return"}},
	}
}

func letSources() []source {
	return []source{
		{"(let ((x 1)) x)", []string{"const 0, local 0, slide 1, return"}}, {"(let ((x 1) (y 2)) (f y x))", []string{"const 0, const 1, global 0, local 1, local 0, call 2, slide 2, return"}}, {"(f 1 (let ((x 2)) (g x)))", []string{"global 0, const 0, const 1, global 1, local 2, call 1, slide 1, call 2, return"}}, {"(let ((x (let ((y 1)) y)) (z (let ((u 2)) u))) z)", []string{"const 0, local 0, slide 1, const 1, local 1, slide 1, local 1, slide 2, return"}}, {"(let* ((x 1) (y x)) y)", []string{"const 0, local 0, local 1, slide 1, slide 1, return"}},
		{"(lambda (a . b) (let ((x b)) (let ((y x)) (f a b x y))))", []string{"closure 1 0, return", "local 1, local 2, global 0, local 0, local 1, local 2, local 3, tail 4"}},
		{"(let ((x 1)) (set! x 2))", []string{"const 0, box, pick 0, const 1, setbox, slide 1, return"}}, {"(let ((x 1) (y 2)) (set! y x) y)", []string{"const 0, const 1, box, pick 1, local 0, setbox, pop, pick 1, unbox, slide 2, return"}}, {"(lambda (x y z) (set! z x) (set! x y))", []string{"closure 1 0, return", "local 0, box, store 0, local 2, box, store 2, pick 2, pick 0, unbox, setbox, pop, pick 0, local 1, setbox, return"}}, {"(lambda x (set! x x))", []string{"closure 1 0, return", "local 0, box, store 0, pick 0, pick 0, unbox, setbox, return"}},
		{"(letrec ((f (lambda () f))) f)", []string{"const 0, box, pick 0, pick 0, closure 1 1, setbox, pop, pick 0, unbox, slide 1, return", "free 0, unbox, return"}}, {"(letrec ((x 1) (y x)) (set! x y))", []string{"const 0, box, const 0, box, pick 0, const 1, setbox, pop, pick 1, pick 0, unbox, setbox, pop, pick 0, pick 1, unbox, setbox, slide 2, return"}}, {"(let f ((x 1)) (f x))", []string{"const 0, box, pick 0, pick 0, closure 1 1, setbox, pop, pick 0, unbox, slide 1, const 1, call 1, return", "free 0, unbox, local 0, tail 1"}},
	}
}

func closureSources() []source {
	return []source{
		{"(lambda (x y) (lambda () (lambda () y x y)))", []string{"closure 1 0, return", "local 1, local 0, closure 2 2, return", "free 0, free 1, closure 3 2, return", "free 0, pop, free 1, pop, free 0, return"}}, {"(let ((x 1) (y 2)) (lambda () x))", []string{"const 0, const 1, local 0, closure 1 1, slide 2, return", "free 0, return"}},
		{"(lambda (a b c) (lambda (d) (lambda () (f d b)) a))", []string{"closure 1 0, return", "local 1, local 0, closure 2 2, return", "local 0, free 0, closure 3 2, pop, free 1, return", "global 0, free 0, free 1, tail 2"}},
		{"(lambda (a b) (lambda () (lambda () a) (lambda () b a) b))", []string{"closure 1 0, return", "local 0, local 1, closure 2 2, return", "free 0, closure 3 1, pop, free 1, free 0, closure 4 2, pop, free 1, return", "free 0, return", "free 0, pop, free 1, return"}},
		{"(let ((x 1)) (lambda () (set! x (lambda () x))))", []string{"const 0, box, pick 0, closure 1 1, slide 1, return", "free 0, free 0, closure 2 1, setbox, return", "free 0, unbox, return"}}, {"(lambda (x y) (lambda () (set! y x)))", []string{"closure 1 0, return", "local 1, box, store 1, pick 1, local 0, closure 2 2, return", "free 0, free 1, setbox, return"}},
		{"(lambda () 1) (lambda () (lambda () 2)) (lambda () 3)", []string{"closure 1 0, pop, closure 2 0, pop, closure 4 0, return", "const 0, return", "closure 3 0, return", "const 0, return", "const 0, return"}}, {"((lambda () 1) (lambda () 2))", []string{"closure 1 0, closure 2 0, call 1, return", "const 0, return", "const 0, return"}},
	}
}

func loopSources() []source {
	return []source{
		{"(do () (1))", []string{"loop, const 0, false 5, const 1, jump 6, jump 0, return"}}, {"(do () (1 2 3) 4 5)", []string{"loop, const 0, false 7, const 1, pop, const 2, jump 12, const 3, pop, const 4, pop, jump 0, return"}}, {"(f (do ((i 1 j) (j 2 i)) (i j)))", []string{"global 0, const 0, const 1, loop, local 1, false 8, local 2, jump 13, local 2, local 1, store 2, store 1, jump 3, slide 2, call 1, return"}},
		{"(lambda () (do () (1)))", []string{"closure 1 0, return", "loop, const 0, false 5, const 1, return, jump 0"}}, {"(lambda (n) (do ((i 0 i)) (n (n)) (car i)))", []string{"closure 1 0, return", "const 0, loop, local 0, false 6, local 0, tail 0, local 1, prim 38 1, pop, local 1, store 1, jump 1"}},
		{"(do ((i 0 i)) (#f) (set! i 1))", []string{"const 0, box, loop, const 1, false 7, const 2, jump 16, pick 0, const 3, setbox, pop, pick 0, unbox, box, store 0, jump 2, slide 1, return"}}, {"(do ((i 0)) (i) (do ((j i j)) (j)))", []string{"const 0, loop, local 0, false 6, const 1, jump 20, local 0, loop, local 1, false 12, const 1, jump 15, local 1, store 1, jump 7, slide 1, pop, local 0, store 0, jump 1, slide 1, return"}},
	}
}

func TestPlain(t *testing.T)    { sources(t, plainSources()) }
func TestCalls(t *testing.T)    { sources(t, callSources()) }
func TestTails(t *testing.T)    { sources(t, tailSources()) }
func TestLets(t *testing.T)     { sources(t, letSources()) }
func TestClosures(t *testing.T) { sources(t, closureSources()) }
func TestLoops(t *testing.T)    { sources(t, loopSources()) }

// code is the code of one proto, or of several.
func code(all ...string) []string { return all }

// Agains within lets, and what layer 8 does not make, but may stand.
func handMade() []row {
	one, two := konst(1), konst(2)
	f := call(global("f"))
	return []row{
		// The slots of lets around an again are popped behind the stores.
		{[]api.Core{loop([]int{0}, one, let([]int{1}, two, again(local(1))))}, code("const 0, loop, const 1, local 1, store 0, pop, jump 1, return")},
		{[]api.Core{loop([]int{0, 1}, one, two, let([]int{2}, local(0), let([]int{3, 4}, one, two, again(local(4), local(2)))))}, code("const 0, const 1, loop, local 0, const 0, const 1, local 4, local 2, store 1, store 0, pop, pop, pop, jump 2, return")},
		{[]api.Core{loop([]int{0}, one, rec([]int{1}, two, choice(local(0), local(1), again(local(1)))))}, code("const 0, loop, const 1, box, pick 1, const 2, setbox, pop, local 0, false 13, pick 1, unbox, jump 18, pick 1, unbox, store 0, pop, jump 1, slide 1, slide 1, return")},
		{[]api.Core{lambda(nil, loop([]int{0}, one, let([]int{1}, two, choice(f, f, again(local(1))))))}, code("closure 1 0, return", "const 0, loop, const 1, global 0, call 0, false 8, global 0, tail 0, local 1, store 0, pop, jump 1")},
		// A boxed variable has a new box in each turn; the loop within has its own.
		{[]api.Core{loop([]int{0}, one, let([]int{1}, two, sequence(setLocal(0, two), setLocal(1, one), again(local(1)))))}, code("const 0, box, loop, const 1, box, pick 0, const 1, setbox, pop, pick 1, const 0, setbox, pop, pick 1, unbox, box, store 0, pop, jump 2, return")},
		{[]api.Core{loop([]int{0}, one, let([]int{1}, two, loop([]int{2}, local(1), choice(local(2), local(0), again(local(1))))))}, code("const 0, loop, const 1, local 1, loop, local 2, false 9, local 0, jump 12, local 1, store 2, jump 4, slide 1, slide 1, slide 1, return")},
		{[]api.Core{loop([]int{0}, one, choice(local(0), loop(nil, choice(f, two, again())), again(two)))}, code("const 0, loop, local 0, false 12, loop, global 0, call 0, false 10, const 1, jump 11, jump 4, jump 15, const 1, store 0, jump 1, slide 1, return")},
		{[]api.Core{loop([]int{0}, one, again(let([]int{1}, two, local(1))))}, code("const 0, loop, const 1, local 1, slide 1, store 0, jump 1, return")},
		{[]api.Core{loop([]int{0}, one, again(loop([]int{1}, two, choice(local(0), local(1), again(local(0))))))}, code("const 0, loop, const 1, loop, local 0, false 8, local 1, jump 11, local 0, store 1, jump 3, slide 1, store 0, jump 1, return")},
		{[]api.Core{loop([]int{0}, one, again(lambda(nil, local(0))))}, code("const 0, loop, local 0, closure 1 1, store 0, jump 1, return", "free 0, return")},
		// Forms without variables.
		{[]api.Core{let(nil, one)}, code("const 0, return")}, {[]api.Core{rec(nil, f)}, code("global 0, call 0, return")}, {[]api.Core{loop(nil, one)}, code("loop, const 0, return")}, {[]api.Core{call(let(nil, global("f")), rec(nil, one))}, code("global 0, const 0, call 1, return")},
		// Definitions anywhere.
		{[]api.Core{call(global("f"), define("x", one))}, code("global 0, const 0, define 1, call 1, return")}, {[]api.Core{lambda(nil, define("x", one))}, code("closure 1 0, return", "const 0, define 0, return")},
		// Variables may have any numbers.
		{[]api.Core{let([]int{-7}, one, let([]int{1 << 60}, two, call(local(1<<60), local(-7))))}, code("const 0, const 1, local 1, local 0, call 1, slide 1, slide 1, return")},
		{[]api.Core{lambda([]int{9, 3}, sequence(setLocal(3, local(9)), lambda([]int{1}, local(3))))}, code("closure 1 0, return", "local 1, box, store 1, pick 1, local 0, setbox, pop, pick 1, closure 2 1, return", "free 0, unbox, return")},
	}
}

// What never goes on has nothing behind it that would take its value.
func endless() []row {
	one, two, f := konst(1), konst(2), call(global("f"))
	never := loop(nil, again())
	in := func(c api.Core) []api.Core { return []api.Core{lambda([]int{7}, c)} }
	return []row{
		{[]api.Core{never}, code("loop, jump 0, return")}, {[]api.Core{never, one}, code("loop, jump 0, const 0, return")}, {[]api.Core{one, never}, code("const 0, pop, loop, jump 2, return")}, {[]api.Core{loop([]int{0}, one, again(local(0)))}, code("const 0, loop, local 0, store 0, jump 1, return")},
		{in(never), code("closure 1 0, return", "loop, jump 0")}, {in(sequence(f, never)), code("closure 1 0, return", "global 0, call 0, pop, loop, jump 3")}, {in(sequence(never, f)), code("closure 1 0, return", "loop, jump 0, global 0, tail 0")},
		{in(choice(one, never, never)), code("closure 1 0, return", "const 0, false 4, loop, jump 2, loop, jump 4")}, {in(choice(one, never, two)), code("closure 1 0, return", "const 0, false 4, loop, jump 2, const 1, return")}, {in(choice(one, two, never)), code("closure 1 0, return", "const 0, false 4, const 1, return, loop, jump 4")},
		{[]api.Core{choice(one, never, two)}, code("const 0, false 4, loop, jump 2, const 1, return")}, {[]api.Core{choice(one, two, never)}, code("const 0, false 4, const 1, jump 6, loop, jump 4, return")}, {[]api.Core{choice(one, never, never), two}, code("const 0, false 4, loop, jump 2, loop, jump 4, const 1, return")}, {[]api.Core{choice(one, choice(one, never, never), two)}, code("const 0, false 8, const 0, false 6, loop, jump 4, loop, jump 6, const 1, return")},
		{[]api.Core{choice(one, sequence(two, never), let([]int{0}, two, never)), two}, code("const 0, false 6, const 1, pop, loop, jump 4, const 1, loop, jump 7, const 1, return")},
		{[]api.Core{let([]int{0}, one, never), rec([]int{1}, one, never), loop([]int{2}, one, never), two}, code("const 0, loop, jump 1, const 1, box, pick 0, const 0, setbox, pop, loop, jump 9, const 0, loop, loop, jump 13, const 2, return")},
		{[]api.Core{sequence(let([]int{0}, one, never), two)}, code("const 0, loop, jump 1, const 1, return")}, {[]api.Core{sequence(one, never), two}, code("const 0, pop, loop, jump 2, const 1, return")},
		{in(let([]int{0}, one, choice(local(0), never, f))), code("closure 1 0, return", "const 0, local 1, false 5, loop, jump 3, global 0, tail 0")}, {in(call(let([]int{0}, one, never), two)), code("closure 1 0, return", "const 0, loop, jump 1, const 1, tail 1")},
		// Where its value would be taken by other instructions, these stand as ever.
		{[]api.Core{call(global("f"), never)}, code("global 0, loop, jump 1, call 1, return")}, {[]api.Core{call(prim("car"), never)}, code("loop, jump 0, prim 38 1, return")}, {[]api.Core{define("x", never)}, code("loop, jump 0, define 0, return")}, {[]api.Core{choice(never, one, two)}, code("loop, jump 0, false 5, const 0, jump 6, const 1, return")}, {[]api.Core{let([]int{0}, never, local(0))}, code("loop, jump 0, local 0, slide 1, return")}, {[]api.Core{let([]int{0}, never, setLocal(0, local(0)))}, code("loop, jump 0, box, pick 0, pick 0, unbox, setbox, slide 1, return")}, {[]api.Core{rec([]int{0}, never, local(0))}, code("const 0, box, pick 0, loop, jump 3, setbox, pop, pick 0, unbox, slide 1, return")},
		{in(setLocal(7, never)), code("closure 1 0, return", "local 0, box, store 0, pick 0, loop, jump 4, setbox, return")},
	}
}

func TestHandMade(t *testing.T) { codes(t, handMade()) }
func TestEndless(t *testing.T)  { codes(t, endless()) }

func toldNum(limbs ...uint32) string { return num.Text(api.Num{Mag: limbs}) }

// Constants and names are numbered as they are first wanted, in each proto; which are one.
func TestConstants(t *testing.T) {
	big := api.Num{Mag: []uint32{1, 2, 3}}
	integer := func(neg bool, limbs ...uint32) api.Core {
		return data(api.Datum{Kind: api.Int, Num: api.Num{Neg: neg, Mag: limbs}})
	}
	char := func(n int) api.Core { return data(api.Datum{Kind: api.Char, N: n}) }
	void := data(api.Datum{Kind: api.Void})
	for _, x := range []struct {
		cores []api.Core
		want  string
	}{
		{forms(t, "1 2 1 -1 0 #t #f #t #\\a #\\b #\\a 'a 'b 'a"), "'1 '2 '-1 '0 '#t '#f '#\\a '#\\b 'a 'b"},
		{forms(t, "\"a\" \"a\" '(1) '(1) '() '() #() #() #(1) #(1)"), `'"a" '"a" '(1) '(1) '() '() '#() '#() '#(1) '#(1)`},
		{forms(t, "car car (f car cdr) (car) 38 (if 1 2) (if 1 2)"), "'prim38 'prim39 '38 '1 '2 '#<void>"},
		{forms(t, "(define (f a . b) (g 'x \"s\" 'x \"s\" h g)) f g 'x"), "'x"},
		{forms(t, "(letrec ((a 1) (b 2)) (letrec ((c 1)) c)) 'c"), "'mark-1 '1 '2 'c"},
		{[]api.Core{integer(false, big.Mag...), integer(true, big.Mag...), integer(false, 1, 2, 3, 0), integer(false, 1, 2), integer(false, 3, 2, 1), integer(true, 1, 2, 3)}, "'" + toldNum(1, 2, 3) + " '-" + toldNum(1, 2, 3) + " '" + toldNum(1, 2) + " '" + toldNum(3, 2, 1)},
		{[]api.Core{integer(false), integer(true), integer(false, 0), integer(true, 0, 0), char(0), data(boolean(0)), void}, "'0 '#\\nul '#f '#<void>"},
		{[]api.Core{char(1), data(whole(1)), data(boolean(1)), char(1), data(symbol("1")), void, data(text("1")), void}, "'#\\x01 '1 '#t '1 '#<void> '\"1\""},
		{[]api.Core{data(api.Datum{Kind: api.Symbol, N: 3, Text: "a"}), data(symbol("a")), data(api.Datum{Kind: api.Symbol, N: -1}), rec([]int{0}, data(symbol("")), local(0))}, "'mark3a 'a 'mark-1 '"},
		{[]api.Core{data(api.Datum{Kind: api.Proc, N: 38, Text: "x"}), prim("car"), data(api.Datum{Kind: api.Proc, N: 38}), data(api.Datum{Kind: api.Proc, N: 38, Text: "x"})}, "'prim38x"},
		{[]api.Core{data(condition(whole(1), list(symbol("a")))), data(condition(whole(1))), data(condition(whole(1), list(symbol("a")))), data(condition(whole(1), list(symbol("b")))), data(condition(whole(1), dotted(symbol("a")))), data(condition(whole(1), vector(symbol("a"))))}, "'#<condition type 1 (a)> '#<condition type 1> '#<condition type 1 (b)> '#<condition type 1 a> '#<condition type 1 #(a)>"},
	} {
		var got string
		for i, d := range made(t, x.cores...)[0].Consts {
			if i > 0 {
				got += " "
			}
			got += "'" + toldDatum(d)
		}
		if got != x.want {
			t.Errorf("%s: %s, not %s", brief(x.cores), got, x.want)
		}
	}
}

// fieldByField are data of each kind, those that are none too, of which each pair parts in one field or in several.
func fieldByField() []api.Datum {
	var all []api.Datum
	for kind := range 13 {
		plain := api.Datum{Kind: kind - 1, N: 3, Num: whole(5).Num, Text: "x", Items: []api.Datum{whole(1)}, Rest: []api.Datum{whole(2)}}
		n, size, name, items, rest := plain, plain, plain, plain, plain
		n.N, size.Num, name.Text = 4, whole(6).Num, "y"
		items.Items, rest.Rest = []api.Datum{whole(7)}, []api.Datum{whole(7)}
		empty := api.Datum{Kind: kind - 1}
		all = append(all, plain, n, size, name, items, rest, empty, condition(plain), condition(n), condition(name), condition(list(name)))
	}
	return all
}

// A constant is the one that is there just if layer 7 calls them alike; the first one stands.
func TestAlikeIsLayerSevens(t *testing.T) {
	all := fieldByField()
	for _, a := range all {
		for _, b := range all {
			want := []api.Datum{a, b}
			if alike(a, b) {
				want = want[:1]
			}
			p := made(t, data(a), data(b))[0]
			if !reflect.DeepEqual(p.Consts, want) || p.Code[2].A != len(want)-1 {
				t.Fatalf("%+v, %+v: %+v, %s", a, b, p.Consts, toldCode(p))
			}
		}
	}
}

// Of a Proc its number alone counts, whatever its name is.
func TestProcsOfOneNumber(t *testing.T) {
	proc := func(n int, name string) api.Core { return data(api.Datum{Kind: api.Proc, N: n, Text: name}) }
	for _, x := range []struct {
		cores  []api.Core
		code   string
		consts string
	}{
		{[]api.Core{proc(3, "x"), proc(3, "y")}, "const 0, pop, const 0, return", "prim3x"},
		{[]api.Core{proc(3, "x"), prim("=")}, "const 0, pop, const 0, return", "prim3x"},
		{[]api.Core{prim("="), proc(3, "x")}, "const 0, pop, const 0, return", "prim3"},
		{[]api.Core{proc(3, "x"), proc(4, "x")}, "const 0, pop, const 1, return", "prim3x prim4x"},
	} {
		p := made(t, x.cores...)[0]
		var consts []string
		for _, d := range p.Consts {
			consts = append(consts, toldDatum(d))
		}
		if toldCode(p) != x.code || strings.Join(consts, " ") != x.consts {
			t.Errorf("%s: %s, %v", brief(x.cores), toldCode(p), consts)
		}
	}
}

// What a proto is told by, beside its code.
func TestHeads(t *testing.T) {
	rest := func(c api.Core) api.Core { c.Rest = true; return c }
	named := lambda(vars(0, 3), local(2))
	named.Name = "a name"
	all := lambda([]int{5}, local(5))
	odd := data(whole(1)) // other fields than its kind has, of which none may be wrong
	odd.Name, odd.N, odd.Rest = "odd", 7, true
	for _, x := range []struct {
		cores []api.Core
		want  string
	}{
		{nil, "/0/0 '#<void>: const 0, return"},
		{[]api.Core{named}, "/0/0: closure 1 0, return\na name/3/0: local 2, return"},
		{[]api.Core{rest(named)}, "/0/0: closure 1 0, return\na name/2/0*: local 2, return"},
		{[]api.Core{rest(all)}, "/0/0: closure 1 0, return\n/0/0*: local 0, return"},
		{[]api.Core{odd}, "/0/0 '1: const 0, return"},
		{forms(t, "(define (f a . b) (g 'x h g (lambda () a b)) x) x f"), "/0/0 \"f\" \"x\": closure 1 0, define 0, pop, global 1, pop, global 0, return\nf/1/0* 'x \"g\" \"h\" \"x\": global 0, const 0, global 1, global 0, local 0, local 1, closure 2 2, call 4, pop, global 2, return\n/0/2: free 0, pop, free 1, return"},
		{[]api.Core{setGlobal("", global("\x00")), define("\x00", global(""))}, "/0/0 \"\\x00\" \"\": global 0, setglo 1, pop, global 1, define 0, return"},
	} {
		if got := toldAll(made(t, x.cores...)); got != x.want {
			t.Errorf("%s:\n%s\nnot\n%s", brief(x.cores), got, x.want)
		}
	}
}

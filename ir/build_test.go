package ir_test

import (
	"math"
	"slices"
	"strconv"
	"strings"
	"testing"

	"tandem/api"
	"tandem/ir"
)

// TestExample: the document's.
func TestExample(t *testing.T) {
	ps := compiled(t, "(define (f x) (+ x 1))")
	c := built(t, ps, 1, 0, api.Feed{Proto: 1, Pc: 2, Mask: 2, Callee: -1})
	var got []int
	for _, in := range c.Ins {
		got = append(got, in.Op)
	}
	if !slices.Equal(got, []int{api.RUnbox, api.RRaw, api.RAdd, api.RBox, api.RReturn}) || len(c.Exits) != 1 || !slices.Equal(c.Raws, []int64{1}) || c.Regs != 5 {
		t.Error(told(c))
	}
}

// TestWhere: of which protos there is code, and from where on.
func TestWhere(t *testing.T) {
	ps := plain()
	for p := -1; p <= 3; p++ {
		for entry := -1; entry <= 7; entry++ {
			c, ok := ir.Build(ps, p, entry)
			if want := p == 1 && (entry == 0 || entry == 1) || p == 2 && entry == 0; ok != want {
				t.Errorf("%d at %d: %v", p, entry, ok)
			}
			if !ok && !isZero(c) {
				t.Errorf("%d at %d: %s", p, entry, told(c))
			}
		}
	}
	wrong := plain()
	wrong[0].Code[0].A = 7
	for _, ps := range [][]api.Proto{nil, {}, wrong, plain()[:1]} {
		if c, ok := ir.Build(ps, 1, 0); ok || !isZero(c) {
			t.Error("a program that is not right, or has no such proto")
		}
	}
	for _, n := range []int{math.MinInt, math.MaxInt, 1 << 32} {
		if _, ok := ir.Build(ps, n, 0); ok {
			t.Errorf("proto %d", n)
		}
		if _, ok := ir.Build(ps, 1, n); ok {
			t.Errorf("at %d", n)
		}
	}
}

func isZero(c api.Code) bool {
	return c.Proto == 0 && c.Entry == 0 && c.Regs == 0 && c.Slots == 0 && len(c.Ins)+len(c.Exits)+len(c.Consts)+len(c.Raws)+len(c.Names)+len(c.Maps) == 0
}

// TestWhatIsMade: of some procedures f, when numbers alone were seen.
func TestWhatIsMade(t *testing.T) {
	for _, r := range []struct {
		source string
		want   map[int]int
	}{
		{"(define (f x) x)", map[int]int{api.RReturn: 1}},
		{"(define (f x) 5)", map[int]int{api.RConst: 1, api.RReturn: 1}},
		{"(define (f x) \"text\")", map[int]int{api.RConst: 1, api.RReturn: 1}},
		{"(define (f x) (car x))", map[int]int{api.RCar: 1, api.RReturn: 1}},
		{"(define (f x) (cdr x))", map[int]int{api.RCdr: 1, api.RReturn: 1}},
		{"(define (f x) (cons x 1))", map[int]int{api.RMove: 1, api.RConst: 1, api.RPrim: 1, api.RReturn: 1}},
		{"(define (f x) (list))", map[int]int{api.RPrim: 1, api.RReturn: 1}},
		{"(define (f x) y)", map[int]int{api.RGlobal: 1, api.RReturn: 1}},
		{"(define (f x) (set! y x))", map[int]int{api.RSetGlo: 1, api.RConst: 1, api.RReturn: 1}},
		{"(define (f x) (set! x 2) x)", map[int]int{api.RNew: 1, api.RConst: 1, api.RSave: 1, api.RLoad: 1, api.RReturn: 1}},
		{"(define (g x) (define (f) (set! x 1)) (set! x 3) f)", map[int]int{api.RFree: 1, api.RConst: 2, api.RLoad: 1, api.RSave: 1, api.RReturn: 1}},
		{"(define (f x) (f x))", map[int]int{api.RGlobal: 1, api.RMove: 2, api.RTail: 1}},
		{"(define (f) (f))", map[int]int{api.RGlobal: 1, api.RTail: 1}},
		{"(define (f x) (list (f x)))", map[int]int{api.RGlobal: 1, api.RExit: 1}},
		{"(define (f x) (lambda () x))", map[int]int{api.RExit: 1}},
		{"(define (f x) (if (<= x 1) 'a 'b))", map[int]int{api.RUnbox: 1, api.RRaw: 1, api.RLess: 1, api.RIf: 1, api.RConst: 2, api.RReturn: 2}},
		{"(define (f x) (>= x 1))", map[int]int{api.RUnbox: 1, api.RRaw: 1, api.RLess: 1, api.RPrim: 1, api.RReturn: 1}},
		{"(define (f x) (- (* x x) x))", map[int]int{api.RUnbox: 1, api.RMul: 1, api.RSub: 1, api.RBox: 1, api.RReturn: 1}},
		{"(define (f x) (= x 1))", map[int]int{api.RUnbox: 1, api.RRaw: 1, api.RSame: 1, api.RReturn: 1}},
	} {
		ps := compiled(t, r.source)
		c := built(t, ps, named(t, ps, "f"), 0, ints(ps)...)
		if got := counts(c); !sameCounts(got, r.want) {
			t.Errorf("%s: %v\n%s", r.source, got, told(c))
		}
	}
}

func sameCounts(a, b map[int]int) bool {
	same := len(a) == len(b)
	for k, n := range a {
		same = same && b[k] == n
	}
	return same
}

// TestNoNumbers: a primitive is done itself, where it is not just two numbers that were seen, or there is a constant that is no fixnum.
func TestNoNumbers(t *testing.T) {
	for _, source := range []string{"(+ x 'a)", "(+ '() x)", "(< x 2305843009213693952)", "(= \"t\" x)", "(+ x 1 2)", "(- x)", "(+)", "(< 0 x 5)", "(* #t x)", "(- -2305843009213693953 x)"} {
		ps := compiled(t, "(define (f x) "+source+")")
		n := counts(built(t, ps, 1, 0, ints(ps)...))
		if n[api.RPrim] != 1 || n[api.RUnbox]+n[api.RAdd]+n[api.RSub]+n[api.RMul]+n[api.RLess]+n[api.RSame] > 0 {
			t.Errorf("%s: %v", source, n)
		}
	}
	ps := compiled(t, "(define (f x) (+ x 1))")
	for _, mask := range []int{0, 1, 2, 3, 4, 6, 1 << 10, 2 | 1<<62, -1, math.MinInt, 1<<11 - 2} {
		n := counts(built(t, ps, 1, 0, api.Feed{Proto: 1, Pc: 2, Mask: mask, Callee: 3}))
		if (n[api.RAdd] == 1) != (mask == 2) || n[api.RAdd]+n[api.RPrim] != 1 {
			t.Errorf("mask %d: %v", mask, n)
		}
	}
	int2, bool2 := api.Feed{Proto: 1, Pc: 2, Mask: 2, Callee: -1}, api.Feed{Proto: 1, Pc: 2, Mask: 4, Callee: -1}
	for _, feeds := range [][]api.Feed{nil, {bool2}, {int2, bool2}, {bool2, int2}, {{Proto: 1, Pc: 1, Mask: 2}, {Proto: 2, Pc: 2, Mask: 2}}} {
		if n := counts(built(t, ps, 1, 0, feeds...)); n[api.RPrim] != 1 {
			t.Errorf("%v: %v", feeds, n)
		}
	}
	if n := counts(built(t, ps, 1, 0, int2, int2)); n[api.RAdd] != 1 {
		t.Errorf("twice the same: %v", n)
	}
}

// TestCallees: which calls are inlined.
func TestCallees(t *testing.T) {
	ps := compiled(t, "(define (f x) (list (g x))) (define (g x) x) (define (h) 1) (define (i x . r) r) (define (j . r) r) (define (k x y) x)")
	at := slices.IndexFunc(ps[1].Code, func(in api.Ins) bool { return in.Op == api.OpCall })
	for callee := -4; callee < len(ps)+2; callee++ {
		n := counts(built(t, ps, 1, 0, api.Feed{Proto: 1, Pc: at, Callee: callee}))
		name := ""
		if callee >= 0 && callee < len(ps) {
			name = ps[callee].Name
		}
		want := name == "g" || name == "i" || name == "j"
		if (n[api.RIs] == 1) != want && name != "f" || !want && name != "f" && n[api.RExit] != 1 {
			t.Errorf("%d (%s): %v", callee, name, n)
		}
	}
	for _, callee := range []int{math.MaxInt, math.MinInt} {
		if n := counts(built(t, ps, 1, 0, api.Feed{Proto: 1, Pc: at, Callee: callee})); n[api.RExit] != 1 {
			t.Errorf("%d: %v", callee, n)
		}
	}
	unlike := []api.Feed{{Proto: 1, Pc: at, Callee: 2}, {Proto: 1, Pc: at, Callee: 4}}
	if n := counts(built(t, ps, 1, 0, unlike...)); n[api.RIs] > 0 {
		t.Errorf("unlike ones: %v", n)
	}
}

// everywhere is codes of all places of all procedures, made of what was seen.
func everywhere(t *testing.T, ps []api.Proto) []api.Code {
	m := newMachine(ps, api.Limits{Fuel: 10000, Output: 1000})
	m.run()
	var all []api.Code
	for p := range ps {
		for _, entry := range entries(ps, p) {
			all = append(all, built(t, ps, p, entry, m.table.All()...))
		}
	}
	return all
}

// TestEachGuard: each guard that is done fails once, alone: what had been done ahead of it is neither lost nor done again.
func TestEachGuard(t *testing.T) {
	for _, source := range []string{
		"(define p (list 1 2)) (define (f p) (set-car! p (+ (car p) 1)) (+ (car p) 1)) (list (f p) (f p) (f p) p)",
		"(define p (cons 1 2)) (define (f p) (let ((old (cdr p))) (set-cdr! p (+ old 1)) (* old (cdr p)))) (list (f p) (f p) p)",
		"(define v (vector 1 2)) (define (f i) (vector-set! v i (+ (vector-ref v i) 1)) (- (vector-ref v i) 1)) (list (f 0) (f 0) (f 1) v)",
		"(define v (vector 1 2)) (define (f x) (vector-fill! v (+ x (vector-ref v 1))) (- (vector-ref v 0) 1)) (list (f 1) (f 2) v)",
		"(define (f x) (write \"a\") (display \"b\") (newline) (write-char #\\c) (+ x 1)) (list (f 1) (f 2))",
		"(define n 0) (define (f x) (set! n (+ n x)) (+ n x)) (list (f 1) (f 2) n)",
		"(define (f x) (set! x (+ x 1)) (let ((y (* x 2))) (set! x y) (+ x y))) (list (f 1) (f 2))",
		"(define (count) (let ((n 0)) (lambda (by) (set! n (+ n by)) (display n) (* n 2)))) (define c (count)) (list (c 1) (c 2) (c 3))",
		"(define (make n) (lambda (x) (if (< x 0) n (+ x n)))) (define add (make 5)) (define (g y) (let ((z (add y))) (* z (add z)))) (list (g 1) (g 2) (g -3))",
		"(define (make n) (lambda (x) (set! n (+ n x)) (+ n (car (list x))))) (define add (make 5)) (define (g y) (+ (add y) (add y))) (list (g 1) (g 2) (g -3))",
		"(define (sum a . r) (if (pair? r) (+ a (car r)) a)) (define (g x) (+ (sum x) (sum x 1) (sum x 2 3))) (list (g 1) (g 2))",
		"(define (f n) (do ((i 0 (+ i 1)) (s 0 (+ s (* i i)))) ((= i n) s) (display i))) (list (f 3) (f 5))",
		"(define (f n) (do ((i 0 (+ i 1)) (a 0 b) (b 1 (+ a b))) ((= i n) (list a b)))) (list (f 3) (f 9))",
		"(define (f n) (do ((i 0 (+ i 1)) (s 0 (do ((j i (- j 1)) (s s (+ s j))) ((<= j 0) s)))) ((= i n) s))) (list (f 3) (f 5))",
		"(define (g x) (if (odd? x) (* x 3) (- x 1))) (define (f n) (do ((i 0 (+ i 1)) (s 0 (+ s (g i)))) ((= i n) s))) (list (f 3) (f 5))",
		"(define (g n) (do ((i 0 (+ i 1)) (s 1 (+ s s))) ((= i n) s))) (define (f x) (+ x (g x) x)) (list (f 3) (f 5))",
		"(define (make n) (lambda (x) (display x) (+ (car (list x)) n))) (define add (make 5)) (define (g y) (+ (add y) 1)) (list (g 1) (g 2) (g -3))",
		"(define (f n) (do ((i 0 (+ i 1)) (a 1 b) (b 2 a)) ((= i n) (list a b)))) (list (f 3) (f 4))",
		"(define (f n) (do ((i 0 (+ i 1)) (a 'a b) (b n c) (c 2 a) (d 3 a) (e 4 a)) ((= i n) (list a b c d e)))) (list (f 3) (f 4) (f 5))",
		"(define (f n) (do ((i 0 (+ i 1)) (a 1 b) (b 2 c) (c 3 a) (d 4 e) (e 5 d)) ((= i n) (+ (* a b c) (- d e))))) (list (f 3) (f 4) (f 5))",
		"(define (fact n) (if (= n 0) 1 (* n (fact (- n 1))))) (list (fact 5) (fact 7) (fact 25))",
		"(define (fib n) (if (< n 2) n (+ (fib (- n 1)) (fib (- n 2))))) (list (fib 5) (fib 7))",
		"(define (f x) (define y (+ x 1)) (define z (* y 2)) (list x y z)) (list (f 1) (f 2))",
		"(define (f x) (+ x y)) (define y 1) (call/cc (lambda (k) (with-exception-handler (lambda (e) (k (list e (f 1)))) (lambda () (list (f 1) (f 2) (f 'a))))))",
	} {
		ps := compiled(t, source)
		l := api.Limits{Fuel: 100000, Output: 1000}
		want := newMachine(ps, l).run()
		codes := everywhere(t, ps)
		for alone := -1; alone < 400; alone++ {
			m, n := newMachine(ps, l, codes...), 0
			m.fails = func() bool { n++; return n-1 == alone }
			if o := m.run(); o != want || want.How != api.Value || m.entered == 0 {
				t.Errorf("%s\nguard %d: got %+v, want %+v, entered %d", source, alone, o, want, m.entered)
				break
			}
			if n <= alone {
				break
			}
		}
	}
}

// TestGreatNumbers: sums that are no fixnums, at the very edge.
func TestGreatNumbers(t *testing.T) {
	edges := []string{"0", "1", "-1", "2", "-2", "2305843009213693951", "-2305843009213693952", "2305843009213693950", "1152921504606846976", "-1152921504606846976", "1518500249", "1518500250", "-1518500250"}
	for _, name := range []string{"+", "-", "*", "=", "<", ">", "<=", ">="} {
		for _, a := range edges {
			source := "(define (f x y) (" + name + " x y)) (list"
			for _, b := range edges {
				source += " (f " + a + " " + b + ")"
			}
			ps := compiled(t, source+")")
			want := newMachine(ps, api.Limits{Fuel: 10000}).run()
			m := newMachine(ps, api.Limits{Fuel: 10000}, built(t, ps, 1, 0, ints(ps)...))
			if o := m.run(); o != want || m.entered != len(edges) {
				t.Errorf("%s %s: got %s, want %s", name, a, o.Text, want.Text)
			}
		}
	}
}

// TestConstants: what is no object is the code's own; other ones are the proto's, and what the machine refuses is left to it.
func TestConstants(t *testing.T) {
	deep := api.Datum{Kind: api.List}
	for range 100 {
		deep = api.Datum{Kind: api.List, Items: []api.Datum{deep}}
	}
	long := api.Datum{Kind: api.Vector, Items: make([]api.Datum, 100000)}
	for i := range long.Items {
		long.Items[i].Kind = api.Void
	}
	wide := api.Datum{Kind: api.Int, Num: api.Num{Mag: append(make([]uint32, 256), 1)}}
	const own, protos, left = 1, 2, 3
	for i, r := range []struct {
		d   api.Datum
		how int
	}{
		{whole(5), own}, {whole(-1 << 61), own}, {whole(1 << 61), protos}, {api.Datum{Kind: api.Int, Text: "beside", Num: api.Num{Neg: true, Mag: []uint32{0, 0}}}, own}, {wide, left}, {api.Datum{Kind: api.Int, Num: api.Num{Mag: wide.Num.Mag[1:]}}, protos}, {api.Datum{Kind: api.Int, Num: api.Num{Mag: append(wide.Num.Mag[1:257:257], 0, 0)}}, protos},
		{api.Datum{Kind: api.Bool, N: 1, Text: "beside"}, own}, {api.Datum{Kind: api.Bool, N: 2}, left}, {api.Datum{Kind: api.Char, N: 255}, own}, {api.Datum{Kind: api.Char, N: 256}, left}, {api.Datum{Kind: api.Char, N: -1}, left},
		{api.Datum{Kind: api.Symbol, Text: "a"}, own}, {api.Datum{Kind: api.Symbol, Text: "a", N: 1}, protos}, {api.Datum{Kind: api.Symbol, N: -1}, protos}, {api.Datum{Kind: api.String}, protos}, {api.Datum{Kind: api.Void, N: 8}, own},
		{api.Datum{Kind: api.List, N: 1}, own}, {api.Datum{Kind: api.List, Items: []api.Datum{whole(1)}, Rest: []api.Datum{whole(1)}}, protos}, {api.Datum{Kind: api.List, Rest: []api.Datum{whole(1)}}, left}, {api.Datum{Kind: api.List, Items: []api.Datum{whole(1)}, Rest: []api.Datum{whole(1), whole(1)}}, left},
		{api.Datum{Kind: api.Vector}, protos}, {api.Datum{Kind: api.Vector, Items: []api.Datum{{Kind: api.Bool, N: 3}}}, left}, {deep, left}, {deep.Items[0], protos}, {long, left},
		{api.Datum{Kind: api.Proc, N: 91}, own}, {api.Datum{Kind: api.Proc, N: 92}, left}, {api.Datum{Kind: api.Proc, N: 3, Text: "x"}, left}, {api.Datum{Kind: api.Cond}, left}, {api.Datum{}, left}, {api.Datum{Kind: 99}, left}, {api.Datum{Kind: api.Vector, Items: []api.Datum{{Kind: api.Proc}}}, left},
	} {
		ps := []api.Proto{plain()[0], {Consts: []api.Datum{r.d}, Code: []api.Ins{op(api.OpConst), op(api.OpReturn)}}}
		c := built(t, ps, 1, 0)
		got := left
		if c.Ins[0].Op == api.RConst {
			got = own + c.Ins[0].C/2
		}
		if got != r.how || len(c.Consts) != map[int]int{own: 1}[r.how] {
			t.Errorf("%d: %s", i, told(c))
		}
	}
}

// TestTooLong: of what would be too long there is an exit to the frame as it stands.
func TestTooLong(t *testing.T) {
	local, one, most := op(api.OpLocal), op(api.OpConst), op(api.OpPrim, primitive("max"), 2)
	deep := slices.Repeat([]api.Ins{local}, 4000)
	long := append([]api.Ins{local}, slices.Repeat([]api.Ins{one, most}, 32766)...)
	displays := append(slices.Clone(deep), slices.Repeat([]api.Ins{local, op(api.OpPrim, primitive("display"), 1), op(api.OpPop)}, 20000)...)
	var ways []api.Ins
	for n := range 20000 {
		ways = append(ways, local, op(api.OpFalse, 4000+2*n+2))
	}
	for i, code := range [][]api.Ins{long, displays, append(slices.Clone(deep), ways...)} {
		ps := []api.Proto{plain()[0], {Args: 1, Consts: []api.Datum{whole(1)}, Code: append(code, local, op(api.OpReturn))}}
		c := built(t, ps, 1, 0, ints(ps)...)
		if len(c.Ins) != 1 || c.Ins[0].Op != api.RExit || c.Regs != 1 || len(c.Exits) != 1 {
			t.Errorf("%d: %d instructions", i, len(c.Ins))
		}
	}
}

// TestGrowth: code stays short, however many ways lead out of what is inlined, and however much calls itself.
func TestGrowth(t *testing.T) {
	source := "(define (g x) (if (< x 0) 1 (if (< x 1) 2 (if (< x 2) 3 4)))) (define (f x) (+"
	for range 30 {
		source += " (g x)"
	}
	ps := compiled(t, source+")) (f 1)")
	m := newMachine(ps, api.Limits{Fuel: 10000})
	want := m.run()
	c := built(t, ps, 2, 0, m.table.All()...)
	if n := len(c.Ins); n < 200 || n > 2000 || c.Regs > 100 {
		t.Errorf("%d instructions, %d registers", n, c.Regs)
	}
	if o := newMachine(ps, api.Limits{Fuel: 10000}, c).run(); o != want {
		t.Errorf("got %+v, want %+v", o, want)
	}
	self := "(define (f x) (+ (f x)"
	for i := range 40 {
		self += " (f " + strconv.Itoa(i) + ")"
	}
	ps = compiled(t, self+"))")
	var feeds []api.Feed
	for pc := range ps[1].Code {
		feeds = append(feeds, api.Feed{Proto: 1, Pc: pc, Mask: 2, Callee: 1})
	}
	if n := len(built(t, ps, 1, 0, feeds...).Ins); n > 100 {
		t.Errorf("%d instructions of what calls itself", n)
	}
	calls := func(name string) string {
		return " (+" + strings.Repeat(" ("+name+" x)", 30) + "))"
	}
	ps = compiled(t, "(define (g x) (+ x 1)) (define (h x)"+calls("g")+"(define (f x)"+calls("h")+"(f 1)")
	m = newMachine(ps, api.Limits{Fuel: 100000})
	m.run()
	if n := len(built(t, ps, 3, 0, m.table.All()...).Ins); n < 500 || n > 3000 {
		t.Errorf("%d instructions of many calls", n)
	}
}

package expand_test

import (
	"testing"

	"tandem/api"
	"tandem/expand"
)

func plainRows() []row {
	return []row{
		{"", ""}, {"5", "'5"}, {`-7 "a" #\b #t #f`, `'-7; '"a"; '#\b; '#t; '#f`}, {"#(a (b) #(c))", "'#(a (b) #(c))"}, {"#()", "'#()"}, {"x", "x"}, {"car", "%car"}, {"error", "%error"}, {"+", "%+"},
		{"(f)", "(f)"}, {"(f 1 (g x))", "(f '1 (g x))"}, {"((f 1) 2)", "((f '1) '2)"}, {"(5 6)", "('5 '6)"}, {"(\"a\")", "('\"a\")"}, {"(#(1) car)", "('#(1) %car)"}, {"((if 1 2 3))", "((if '1 '2 '3))"},
		{"'a", "'a"}, {"'()", "'()"}, {"'(a . b)", "'(a . b)"}, {"'if", "'if"}, {"''a", "'(quote a)"}, {"'(1 #(a) \"x\")", "'(1 #(a) \"x\")"},
		{"(if 1 2)", "(if '1 '2 '#<void>)"}, {"(if x y z)", "(if x y z)"},
		{"(lambda () 1)", "(fn:[] '1)"}, {"(lambda x x)", "(fn:[0 *] 0)"}, {"(lambda (x y . z) x y z)", "(fn:[0 1 2 *] {0 1 2})"}, {"(lambda (x) (lambda (y) (lambda x (y x))))", "(fn:[0] (fn:[1] (fn:[2 *] (1 2))))"}, {"(lambda (x) x) (lambda (x) x)", "(fn:[0] 0); (fn:[1] 1)"},
		{"(set! x 1)", "(x! '1)"}, {"(lambda (x) (set! x x) (set! y x))", "(fn:[0] {(0! 0) (y! 0)})"},
		{"(begin 1)", "'1"}, {"(f (begin 1 2))", "(f {'1 '2})"}, {"(f (begin 1))", "(f '1)"}, {"(f (begin 1 (begin 2 3)))", "(f {'1 {'2 '3}})"}, {"(begin)", ""}, {"(begin (begin 1 2) (begin) 3)", "'1; '2; '3"},
		{"(and)", "'#t"}, {"(and 1)", "'1"}, {"(and 1 2)", "(if '1 '2 '#f)"}, {"(and 1 2 3)", "(if '1 (if '2 '3 '#f) '#f)"},
		{"(or)", "'#f"}, {"(or 1)", "'1"}, {"(or 1 2)", "(let[0] '1 (if 0 0 '2))"}, {"(or 1 2 3)", "(let[0] '1 (if 0 0 (let[1] '2 (if 1 1 '3))))"}, {"(or (or 1 2) (or 3 4))", "(let[0] (let[1] '1 (if 1 1 '2)) (if 0 0 (let[2] '3 (if 2 2 '4))))"},
		{"(when 1 2)", "(if '1 '2 '#<void>)"}, {"(when 1 2 3)", "(if '1 {'2 '3} '#<void>)"}, {"(unless 1 2)", "(if '1 '#<void> '2)"}, {"(unless 1 2 3)", "(if '1 '#<void> {'2 '3})"},
	}
}

func letRows() []row {
	return []row{
		{"(let () 1)", "'1"}, {"(let () 1 2)", "{'1 '2}"}, {"(let ((x 1)) x)", "(let[0] '1 0)"}, {"(let ((x 1) (y 2)) (f y x))", "(let[0 1] '1 '2 (f 1 0))"}, {"(let ((x x)) x)", "(let[0] x 0)"}, {"(lambda (x) (let ((x x)) x))", "(fn:[0] (let[1] 0 1))"},
		{"(let ((x (let ((y 1)) y)) (z (lambda (u) u))) (let ((v 2)) v))", "(let[0 1] (let[2] '1 2) (fn:[3] 3) (let[4] '2 4))"}, {"(let ((f (lambda () 1))) f)", "(let[0] (fn:[] '1) 0)"},
		{"(let f () 1)", "((rec[0] (fn:f[] '1) 0))"}, {"(let f ((x 1) (y f)) (f x))", "((rec[0] (fn:f[1 2] (0 1)) 0) '1 f)"}, {"(let f ((x (lambda (y) y))) (lambda (z) z))", "((rec[0] (fn:f[1] (fn:[2] 2)) 0) (fn:[3] 3))"}, {"(let f ((f 1)) f)", "((rec[0] (fn:f[1] 1) 0) '1)"}, {"(let f () (define f 2) f)", "((rec[0] (fn:f[] (rec[1] '2 1)) 0))"}, {"(let if ((x 1)) (if x 2 3))", "((rec[0] (fn:if[1] (0 1 '2 '3)) 0) '1)"},
		{"(let* () 5)", "'5"}, {"(let* () (define x 1) x)", "(rec[0] '1 0)"}, {"(let* ((x 1)) x)", "(let[0] '1 0)"}, {"(let* ((x 1) (x x) (y x)) (f x y))", "(let[0] '1 (let[1] 0 (let[2] 1 (f 1 2))))"}, {"(let* ((x (or 1 2)) (y (or 3 4))) y)", "(let[0] (let[1] '1 (if 1 1 '2)) (let[2] (let[3] '3 (if 3 3 '4)) 2))"},
		{"(letrec () 5)", "'5"}, {"(letrec* () 5 6)", "{'5 '6}"}, {"(letrec ((f (lambda () g)) (g (lambda () f))) (f))", "(rec[0 1] (fn:[] 1) (fn:[] 0) (0))"}, {"(letrec* ((x 1) (y x)) y)", "(rec[0 1] '1 0 1)"},
		{"(do () (1))", "(loop[] (if '1 '#<void> (again)))"}, {"(do ((i 0)) (i))", "(loop[0] '0 (if 0 '#<void> (again 0)))"}, {"(do ((i 0 (+ i 1))) ((= i 3) i))", "(loop[0] '0 (if (%= 0 '3) 0 (again (%+ 0 '1))))"}, {"(do ((i i j) (j 2)) (1 2 3) i j)", "(loop[0 1] i '2 (if '1 {'2 '3} {0 1 (again 1 1)}))"},
		{"(do ((i (lambda (a) a) (lambda (b) b))) ((lambda (c) c) (lambda (d) d)) (lambda (e) e))", "(loop[0] (fn:[1] 1) (if (fn:[2] 2) (fn:[3] 3) {(fn:[4] 4) (again (fn:[5] 5))}))"},
		{"(do ((i 0)) (i) (do ((j i)) (j)))", "(loop[0] '0 (if 0 '#<void> {(loop[1] 0 (if 1 '#<void> (again 1))) (again 0)}))"},
	}
}

func clauseRows() []row {
	return []row{
		{"(cond (1 2))", "(if '1 '2 '#<void>)"}, {"(cond (1 2 3) (4 5))", "(if '1 {'2 '3} (if '4 '5 '#<void>))"}, {"(cond (1))", "(let[0] '1 (if 0 0 '#<void>))"}, {"(cond (1) (2))", "(let[0] '1 (if 0 0 (let[1] '2 (if 1 1 '#<void>))))"}, {"(cond (else 1))", "'1"}, {"(cond (else 1 2))", "{'1 '2}"}, {"(cond (1) (else 2))", "(let[0] '1 (if 0 0 '2))"},
		{"(cond ((or 1 2) => (or 3 4)) (else (or 5 6)))", "(let[0] (let[1] '1 (if 1 1 '2)) (if 0 ((let[2] '3 (if 2 2 '4)) 0) (let[3] '5 (if 3 3 '6))))"}, {"(cond (1 => car))", "(let[0] '1 (if 0 (%car 0) '#<void>))"},
		{"(let ((else 1)) (cond (else 2) (3 4)))", "(let[0] '1 (if 0 '2 (if '3 '4 '#<void>)))"}, {"(let ((=> 1)) (cond (2 => 3)))", "(let[0] '1 (if '2 {0 '3} '#<void>))"}, {"(let ((else #f)) (cond (else)))", "(let[0] '#f (let[1] 0 (if 1 1 '#<void>)))"},
		{"(case 1 (else 2))", "(let[0] '1 '2)"}, {"(case x ((1) 2))", "(let[0] x (if (%eqv? 0 '1) '2 '#<void>))"}, {"(case x ((a b) 2 3) ((\"c\") 4) (() 5) (else 6 7))", "(let[0] x (if (%memv 0 '(a b)) {'2 '3} (if (%eqv? 0 '\"c\") '4 (if '#f '5 {'6 '7}))))"}, {"(case (or 1 2) ((else) (or 3 4)))", "(let[0] (let[1] '1 (if 1 1 '2)) (if (%eqv? 0 'else) (let[2] '3 (if 2 2 '4)) '#<void>))"}, {"(let ((eqv? 1)) (case eqv? ((memv) memv)))", "(let[0] '1 (let[1] 0 (if (%eqv? 1 'memv) %memv '#<void>)))"},
		{"(case x (((1 2) #(3)) 4))", "(let[0] x (if (%memv 0 '((1 2) #(3))) '4 '#<void>))"},
	}
}

func bodyRows() []row {
	return []row{
		{"(lambda () (define x 1) x)", "(fn:[] (rec[0] '1 0))"}, {"(lambda () (define x (lambda () y)) (define (y . r) (x r)) 1 2)", "(fn:[] (rec[0 1] (fn:x[] 1) (fn:y[2 *] (0 2)) {'1 '2}))"}, {"(lambda (x) (define x 2) x)", "(fn:[0] (rec[1] '2 1))"}, {"(lambda () (begin) (begin (define x 1) (begin (define y x))) (begin x) y)", "(fn:[] (rec[0 1] '1 0 {0 1}))"}, {"(lambda () (begin 1 2) 3)", "(fn:[] {'1 '2 '3})"}, {"(lambda () 1 (begin 2 3))", "(fn:[] {'1 {'2 '3}})"}, {"(lambda () (begin (begin 1)))", "(fn:[] '1)"},
		{"(let ((x 1)) (define y x) (set! y 2) y)", "(let[0] '1 (rec[1] 0 {(1! '2) 1}))"}, {"(let () (define (f) (define (g) f) g) f)", "(rec[0] (fn:f[] (rec[1] (fn:g[] 0) 1)) 0)"}, {"(letrec ((x 1)) (define y 2) x)", "(rec[0] '1 (rec[1] '2 0))"},
		{"(lambda () (define-syntax m (syntax-rules () ((_) 1))) (m))", "(fn:[] '1)"}, {"(lambda () (define-syntax d (syntax-rules () ((_ x) (define x 1)))) (d a) (d b) (a b))", "(fn:[] (rec[0 1] '1 '1 (0 1)))"}, {"(lambda () (define-syntax d (syntax-rules () ((_ e) (begin (define t e) (set! t t))))) (d 1))", "(fn:[] (rec[0] '1 (0! 0)))"}, {"(lambda () (define-syntax d (syntax-rules () ((_) (define t 1)))) (d) (d) t)", "(fn:[] (rec[0 1] '1 '1 t))"},
		{"(lambda () (define if 1) (if 2 3))", "(fn:[] (rec[0] '1 (0 '2 '3)))"}, {"(lambda () (define define 1) (define x 2))", "(fn:[] (rec[0] '1 (0 x '2)))"}, {"(lambda () (define begin 1) (begin))", "(fn:[] (rec[0] '1 (0)))"}, {"(lambda () (define car cdr) (car 1))", "(fn:[] (rec[0] %cdr (0 '1)))"},
		{"(define (f) (define-syntax m (syntax-rules () ((_) x))) (define x 1) (m))", "(def f (fn:f[] (rec[0] '1 0)))"}, {"(lambda () (define-syntax m (syntax-rules (foo) ((_ foo) 1) ((_ x) 2))) (define foo 3) (m foo))", "(fn:[] (rec[0] '3 '1))"},
		{"(let-syntax () 1)", "'1"}, {"(let-syntax ((m (syntax-rules () ((_) 1)))) (define x (m)) x)", "(rec[0] '1 0)"}, {"(letrec-syntax () (define x 1) x)", "(rec[0] '1 0)"}, {"(let-syntax ((m (syntax-rules () ((_) 1)))) (define m 2) m)", "(rec[0] '2 0)"},
	}
}

func topRows() []row {
	return []row{
		{"(define x 1)", "(def x '1)"}, {"(define x (lambda () 1))", "(def x (fn:x[] '1))"}, {"(define (f) 1)", "(def f (fn:f[] '1))"}, {"(define (f x . y) x y)", "(def f (fn:f[0 1 *] {0 1}))"}, {"(define (f . y) y)", "(def f (fn:f[0 *] 0))"}, {"(define x (begin (lambda () 1)))", "(def x (fn:x[] '1))"}, {"(define x (let () (lambda () 1)))", "(def x (fn:x[] '1))"}, {"(define x (begin 1 (lambda () 1)))", "(def x {'1 (fn:[] '1)})"}, {"(define x (let ((y 1)) (lambda () y)))", "(def x (let[0] '1 (fn:[] 0)))"}, {"(define x (if 1 (lambda () 1)))", "(def x (if '1 (fn:[] '1) '#<void>))"},
		{"(define x 1) (define x 2) x (set! x 3)", "(def x '1); (def x '2); x; (x! '3)"}, {"(begin (define x 1) (begin) (begin x 2))", "(def x '1); x; '2"}, {"(define f (let f () f))", "(def f ((rec[0] (fn:f[] 0) 0)))"}, {"(define x (or 1 2)) (or 3 4)", "(def x (let[0] '1 (if 0 0 '2))); (let[1] '3 (if 1 1 '4))"},
		{"(define map 1) map", "(def map '1); map"}, {"(define-syntax m (syntax-rules () ((_) 1)))", ""}, {"(define-syntax car (syntax-rules () ((_ x) 'mine))) (car 1) (cdr 1)", "'mine; (%cdr '1)"}, {"(define-syntax if (syntax-rules () ((_ x) 'mine))) (if 1) (cond (1 2))", "'mine; (if '1 '2 '#<void>)"}, {"(define x 1) (define-syntax x (syntax-rules () ((_) 2))) (x)", "(def x '1); '2"},
		{"(m) (define-syntax m (syntax-rules () ((_) 1))) (m)", "(m); '1"}, {"(define (f) (m)) (define-syntax m (syntax-rules () ((_) 1)))", "(def f (fn:f[] (m)))"}, {"(define-syntax m (syntax-rules () ((_) 1))) (define-syntax m (syntax-rules () ((_) 2))) (m)", "'2"}, {"(define-syntax define (syntax-rules () ((_ x e) '(x e)))) (define x 1)", "'(x 1)"}, {"(define-syntax define-syntax (syntax-rules () ((_ x) 'x))) (define-syntax 5)", "'5"}, {"(define-syntax syntax-rules (syntax-rules () ((_) 1))) (syntax-rules)", "'1"},
		{"(begin (define-syntax m (syntax-rules () ((_) 1))) (m))", "'1"}, {"(define-syntax begin (syntax-rules () ((_ x) 'x))) (begin y)", "'y"},
	}
}

func TestPlainForms(t *testing.T) { comeAll(t, plainRows()) }
func TestLets(t *testing.T)       { comeAll(t, letRows()) }
func TestClauses(t *testing.T)    { comeAll(t, clauseRows()) }
func TestBodies(t *testing.T)     { comeAll(t, bodyRows()) }
func TestTop(t *testing.T)        { comeAll(t, topRows()) }

// Each special word may be bound, and is then what it is bound to; so may primitives.
func TestBoundWords(t *testing.T) {
	for _, w := range append(splitWords(keywords), "car", "memv", "apply") {
		comes(t, "(define (f "+w+") ("+w+" 1 2))", "(def f (fn:f[0] (0 '1 '2)))")
		if w != "define" {
			comes(t, "(let ((f 1) ("+w+" 2)) "+w+")", "(let[0 1] '1 '2 1)")
		}
		if w != "let-syntax" && w != "syntax-rules" {
			comes(t, "(let-syntax (("+w+" (syntax-rules () ((m x) 'x)))) ("+w+" 7))", "'7")
		}
		comes(t, "(define-syntax "+w+" (syntax-rules () ((m x) x))) ("+w+" 7)", "'7")
	}
}

// Each primitive is told by its number.
func TestPrimitives(t *testing.T) {
	for i, p := range api.Prims() {
		forms, _, e := expand.Program([]api.Datum{symbol(p.Name)})
		if e != api.OK || len(forms) != 1 || forms[0].Kind != api.CPrim || forms[0].N != i {
			t.Errorf("%s: %+v, error %d", p.Name, forms, e)
		}
	}
}

// Void is a constant, too, though it is not read.
func TestVoid(t *testing.T) {
	forms, _, e := expand.Program([]api.Datum{{Kind: api.Void}, list(symbol("quote"), api.Datum{Kind: api.Proc, N: 3}), list(symbol("quote"), condition(symbol("a")))})
	if got := toldAll(forms); e != api.OK || got != `'#<void>; '#<procedure>; '#<condition type a>` {
		t.Errorf("%s, error %d", got, e)
	}
}

package base_test

import (
	"strconv"
	"strings"
	"testing"

	"tandem/api"
	"tandem/base"
)

// endless are loops that never end, and want little memory at each step.
func endless() []string {
	loops := []string{
		"(define (f i) (f (+ i 1))) (f 0)",
		"(define (f i) (if (< i 0) 0 (f (remainder (+ i 1) 1000)))) (f 0)",
		"(define (even n) (odd (- n 1))) (define (odd n) (even (- n 1))) (even 0)",
		"(let loop ((i 0)) (loop (+ i 1)))",
		"(do ((i 0 (+ i 1))) (#f))",
		"(do ((i 0 (+ i 1))) (#f) (cons i i))",
		"(let loop ((i 0)) (list i (expt 3 100) \"a\") (loop (+ i 1)))",
		"(define (f i) (apply f (list (+ i 1)))) (f 0)",
		"(define (f i) (apply apply f (list (list (+ i 1))))) (f 0)",
		"(define (f . r) (apply f r)) (f 1 2 3)",
		"(define (f i) (call/cc (lambda (k) (f (+ i 1))))) (f 0)",
		"(define (f i) (call/cc (lambda (k) (k (+ i 1)))) (f i)) (f 0)",
		"(define (f i) (+ 1 (call/cc (lambda (k) (k 1)))) (f (+ i 1))) (f 0)",
		"(define k #f) (define n 0) (call/cc (lambda (c) (set! k c))) (set! n (+ n 1)) (k n)",
		"(define k #f) (define (deep n) (if (= n 0) (call/cc (lambda (c) (set! k c) 0)) (+ 1 (deep (- n 1))))) (deep 20) (k 0)",
		"(define (f i) (with-exception-handler (lambda (e) e) (lambda () (raise-continuable i))) (f (+ i 1))) (f 0)",
		"(define (f i) (call/cc (lambda (k) (with-exception-handler (lambda (e) (k e)) (lambda () (car i))))) (f (+ i 1))) (f 0)",
		"(define (f i) (call/cc (lambda (k) (with-exception-handler k (lambda () (error \"a\" i))))) (f (+ i 1))) (f 0)",
		"(define (f i) (dynamic-wind void (lambda () i) void) (f (+ i 1))) (f 0)",
		"(define (f i) (call/cc (lambda (k) (dynamic-wind void (lambda () (k i)) void))) (f (+ i 1))) (f 0)",
		"(define k #f) (dynamic-wind void (lambda () (call/cc (lambda (c) (set! k c)))) void) (k 0)",
		"(define k #f) (with-exception-handler (lambda (e) e) (lambda () (call/cc (lambda (c) (set! k c))) (raise-continuable 1))) (k 0)",
		"(define (f i) (let ((x i)) (set! x (+ x 1)) (let ((g (lambda () x))) (f (g))))) (f 0)",
		"(define (f x) ((lambda (y) (set! y (vector x)) (f x)) 0)) (f 0)",
		"(define (f i) (letrec ((g (lambda (n) (if (= n 0) (f i) (g (- n 1)))))) (g 3))) (f 0)",
		"(define (f i) (string->symbol \"abc\") (f i)) (f 0)",
		// A handler that is left by a continuation of the loop, a thousand times over.
		"(define again #f) (define n 0) (with-exception-handler (lambda (e) (again e)) (lambda () (call/cc (lambda (c) (set! again c))) (raise n)))",
		// A before that goes out each time that it is entered.
		"(define k #f) (define (f) (call/cc (lambda (c) (set! k c))) (dynamic-wind (lambda () (k 0)) void void)) (f)",
		// An after that goes on with the loop.
		"(define (f i) (call/cc (lambda (k) (dynamic-wind void (lambda () (k i)) (lambda () (again (+ i 1))))))) (define again #f) (define n (call/cc (lambda (c) (set! again c) 0))) (f n)",
	}
	for n := 1; n <= 8; n++ {
		var vars, nexts, steps []string
		for i := range n {
			v := "v" + strconv.Itoa(i)
			vars = append(vars, v)
			nexts = append(nexts, "(+ "+v+" "+strconv.Itoa(i+1)+")")
			steps = append(steps, "("+v+" "+strconv.Itoa(i)+" (+ "+v+" 1))")
		}
		loops = append(loops,
			"(define (f "+strings.Join(vars, " ")+") (f "+strings.Join(nexts, " ")+")) (f "+strings.Join(strings.Fields("1 2 3 4 5 6 7 8")[:n], " ")+")",
			"(do ("+strings.Join(steps, " ")+") ((< v0 0)))")
	}
	return loops
}

// TestEndless: however long they run, they do not run out of memory, nor does what they keep grow.
func TestEndless(t *testing.T) {
	for _, source := range endless() {
		if o := base.Run(compiled(t, api.Prelude+source), api.Limits{Words: 4096, Fuel: 10000}); o.How != api.Fuel {
			t.Errorf("%s: %s", source, told(o))
		}
		// 400 words are enough for each of them, and how many roots there are has a bound.
		m := made(t, compiled(t, source), api.Limits{Words: 400, Fuel: 20000})
		for m.Step(1000) {
			if n := len(m.Roots()); n > 300 {
				t.Fatalf("%s: %d roots behind %d steps", source, n, m.Count())
			}
		}
		if o := m.Outcome(); o.How != api.Fuel {
			t.Errorf("%s: %s behind %d steps", source, told(o), m.Count())
		}
	}
}

// TestNothingIsKept: values that are not wanted any more are not held.
func TestNothingIsKept(t *testing.T) {
	// Each of these makes a vector of about half of the words time after time, of which two never fit.
	for _, source := range []string{
		"(define (f i) (if (= i 0) 'end (begin (make-vector 50) (f (- i 1))))) (f 9)",
		"(define (f i v) (if (= i 0) 'end (f (- i 1) (vector-length (make-vector 50))))) (f 9 0)",
		"(define (f i v) (if (= i 0) 'end (g i))) (define (g i) (f (- i 1) (make-vector 50 i))) (f 9 0)",
		"(define (len v) (vector-length v)) (define (f i) (if (= i 0) 'end (begin (len (make-vector 50)) (f (- i 1))))) (f 9)",
		"(define (f i) (if (= i 0) 'end (begin (call/cc (lambda (k) (k (make-vector 50)))) (f (- i 1))))) (f 9)",
		"(define (f i) (if (= i 0) 'end (begin (apply vector-length (list (make-vector 40))) (f (- i 1))))) (f 9)",
		"(define (f i) (if (= i 0) 'end (begin (with-exception-handler vector-length (lambda () (raise-continuable (make-vector 40)))) (f (- i 1))))) (f 9)",
		"(define (f i) (if (= i 0) 'end (begin ((let ((v (make-vector 48))) (lambda () (vector-length v)))) (make-vector 48) (f (- i 1))))) (f 9)",
		"(define (f i) (if (= i 0) 'end (begin (dynamic-wind (lambda () (make-vector 45)) (lambda () (make-vector 45) 0) (lambda () (make-vector 45))) (f (- i 1))))) (f 9)",
		"(define (f i) (if (= i 0) 'end (begin (call/cc (lambda (k) (dynamic-wind void (lambda () (let ((v (make-vector 45))) (+ 1 (k (vector-length v))))) (lambda () (make-vector 45))))) (f (- i 1))))) (f 9)",
		"(define (v) (make-vector 45)) (call/cc (lambda (k) (dynamic-wind void (lambda () (dynamic-wind void (lambda () (k 0)) v)) v))) 'end",
		"(call/cc (lambda (k) (with-exception-handler (lambda (e) (k 0)) (lambda () (with-exception-handler (lambda (e) (make-vector 77)) (lambda () (raise 1))))))) 'end",
	} {
		if got := told(base.Run(compiled(t, source), api.Limits{Words: 100, Fuel: 10000})); got != "value end" {
			t.Errorf("%s: %s", source, got)
		}
	}
}

// TestContinuationsShare: continuations of places within each other have the frames that they share in common.
func TestContinuationsShare(t *testing.T) {
	for _, source := range []string{
		"(define (try t) (call/cc (lambda (k) (with-exception-handler (lambda (e) (k e)) t)))) (define (r n) (if (= n 0) (error \"x\") (try (lambda () (r (- n 1)))))) (r 100)",
		"(define ks '()) (define (d n) (if (= n 0) (length ks) (let ((v (d (- n 1)))) (call/cc (lambda (k) (set! ks (cons k ks)))) (+ v 1)))) (d 100)",
		"(define ks '()) (define (d n) (call/cc (lambda (k) (set! ks (cons k ks)))) (if (= n 0) (length ks) (+ 0 (d (- n 1))))) (d 100)",
	} {
		if o := base.Run(compiled(t, source), api.Limits{Words: 4096, Fuel: 100000}); o.How != api.Value {
			t.Errorf("%s: %s", source, told(o))
		}
	}
}

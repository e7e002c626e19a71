package base_test

import (
	"strconv"
	"strings"
	"testing"
)

// TestExamples: the chapter's.
func TestExamples(t *testing.T) {
	runRows(t, []row{
		{"(+ 1 2)", "value 3"},
		{"(car 5)", `raised #<condition type "car" 5>`},
		{"(define (f n) (f n)) (f 1)", "fuel"},
		{"(display 1) (x)", `raised |1| #<condition unbound "x">`},
	})
}

func TestGlobals(t *testing.T) {
	runRows(t, []row{
		{"x", `raised #<condition unbound "x">`},
		{"(set! x 1)", `raised #<condition unbound "x">`},
		{"(set! x (display 1))", `raised |1| #<condition unbound "x">`},
		{"(define x 1) (set! x (+ x 1)) x", "value 2"},
		{"(define x 1) (define x 2) x", "value 2"},
		{"(define x 1)", "value #<void>"},
		{"(define x 1) (set! x 2)", "value #<void>"},
		{"(define (f) x) (define x 3) (f)", "value 3"},
		{"(define (f) (set! x 4)) (define x 3) (f) x", "value 4"},
		{"(display x) (define x 1)", `raised #<condition unbound "x">`},
		{"(define (f) (define x 1) x) (f) x", `raised #<condition unbound "x">`},
	})
}

func TestVariables(t *testing.T) {
	runRows(t, []row{
		{"(letrec ((a b) (b 1)) a)", `raised #<condition unassigned "">`},
		{"(letrec ((a 1) (b a)) b)", "value 1"},
		{"(define (f) (define a b) (define b 1) a) (f)", `raised #<condition unassigned "">`},
		{"(letrec ((a (lambda () b)) (b 1)) (a))", "value 1"},
		{"(letrec ((a (begin (set! a 1) 2))) a)", "value 2"},
		{"(let ((x 1)) (let ((f (lambda () (set! x (+ x 1)) x))) (f) (f) x))", "value 3"},
		{"(define (mk n) (lambda (m) (set! n (+ n m)) n)) (define a (mk 1)) (define b (mk 10)) (a 1) (b 1) (list (a 0) (b 0))", "value (2 11)"},
		{"((lambda (x) (set! x (cons x x)) x) 1)", "value (1 . 1)"},
		{"(call/cc (lambda (k) (with-exception-handler (lambda (e) (k (condition-irritants e))) (lambda () (letrec ((a a)) a)))))", "value ()"},
	})
}

func TestCalls(t *testing.T) {
	runRows(t, []row{
		{"((lambda () 1))", "value 1"},
		{"((lambda (x . r) (list x r)) 1)", "value (1 ())"},
		{"((lambda (x . r) (list x r)) 1 2)", "value (1 (2))"},
		{"((lambda (x . r) (list x r)) 1 2 3)", "value (1 (2 3))"},
		{"((lambda r r))", "value ()"},
		{"((lambda r r) 1 2)", "value (1 2)"},
		{"((lambda (x) x))", `raised #<condition arity "">`},
		{"((lambda (x . r) x))", `raised #<condition arity "">`},
		{"(define (f x) x) (f)", `raised #<condition arity "f">`},
		{"(define (f x) x) (f 1 'b \"c\")", `raised #<condition arity "f" 1 b "c">`},
		{"(define (f x y . r) x) (f 1)", `raised #<condition arity "f" 1>`},
		{"(let loop ((i 0)) (if (= i 1) (loop) (loop 1)))", `raised #<condition arity "loop">`},
		{"(let ((x (list 1 2))) (let ((f (lambda r r))) (eq? (apply f x) x)))", "value #f"},
		{"(let ((c car)) (c '(1)))", "value 1"},
		{"(let ((c car)) (c 1))", `raised #<condition type "car" 1>`},
		{"(let ((c car)) (c))", `raised #<condition arity "car">`},
		{"(let ((c car)) (c '(1) 2))", `raised #<condition arity "car" (1) 2>`},
		{"(car)", `raised #<condition arity "car">`},
		{"(5)", `raised #<condition apply "call" 5>`},
		{"(5 6 7)", `raised #<condition apply "call" 5 6 7>`},
		{"(\"f\" 6)", `raised #<condition apply "call" "f" 6>`},
		{"('() '())", `raised #<condition apply "call" () ()>`},
		{"((void))", `raised #<condition apply "call" #<void>>`},
		{"(#t)", `raised #<condition apply "call" #t>`},
		{"('a (display 1))", `raised |1| #<condition apply "call" a #<void>>`},
		{"(define (f) (5 6)) (f)", `raised #<condition apply "call" 5 6>`},
		{"(define (f) (car 6)) (f)", `raised #<condition type "car" 6>`},
		{"(define (f . r) (car r)) (+ (f 1 2) (f 3))", "value 4"},
		{"(define (even n) (if (= n 0) #t (odd (- n 1)))) (define (odd n) (if (= n 0) #f (even (- n 1)))) (even 1001)", "value #f"},
		{"(define (fact n) (if (= n 0) 1 (* n (fact (- n 1))))) (fact 25)", "value 15511210043330985984000000"},
	})
}

func TestApply(t *testing.T) {
	runRows(t, []row{
		{"(apply + '())", "value 0"},
		{"(apply + '(1 2))", "value 3"},
		{"(apply + 1 2 '(3 4))", "value 10"},
		{"(apply list 1 '(2) '())", "value (1 (2))"},
		{"(apply (lambda (a . r) (list a r)) 1 '(2 3))", "value (1 (2 3))"},
		{"(apply apply (list + (list 1 2)))", "value 3"},
		{"(apply apply + 1 '(2 (3)))", "value 6"},
		{"(apply call/cc (list (lambda (k) (k 1))))", "value 1"},
		{"(+ 1 (call/cc (lambda (k) (apply k '(2)))))", "value 3"},
		{"(apply + 5)", `raised #<condition type "apply" #<procedure> 5>`},
		{"(apply + 1 '(2 . 3))", `raised #<condition type "apply" #<procedure> 1 (2 . 3)>`},
		{"(apply 5 6)", `raised #<condition type "apply" 5 6>`},
		{"(apply 5 '(6))", `raised #<condition apply "call" 5 6>`},
		{"(apply car '(1))", `raised #<condition type "car" 1>`},
		{"(apply car '())", `raised #<condition arity "car">`},
		{"(apply)", `raised #<condition arity "apply">`},
		{"(apply +)", `raised #<condition arity "apply" #<procedure>>`},
		{"(define l (list 1 2)) (set-cdr! (cdr l) l) (call/cc (lambda (k) (with-exception-handler (lambda (e) (k (list (condition-class e) (condition-message e)))) (lambda () (apply + l)))))", `value (type "apply")`},
		{"(define l (list 1)) (define m (apply list l)) (eq? l m)", "value #f"},
		{"(define (f n) (if (= n 0) 'end (apply f (list (- n 1))))) (f 1000)", "value end"},
	})
}

// TestManyArguments: a call may have 1024 arguments, and no more, whatever is called.
func TestManyArguments(t *testing.T) {
	items := func(n int) string { return strings.Repeat("1 ", n) }
	var rows []row
	for _, f := range []string{"+", "5", "car", "(lambda r (apply + r))", "(lambda (x) x)", "call/cc", "raise"} {
		rows = append(rows, row{"(apply " + f + " '(" + items(1025) + "))", "bound"}, row{"(apply " + f + " 1 1 '(" + items(1023) + "))", "bound"})
	}
	many := strings.TrimSuffix(items(1024), " ")
	rows = append(rows,
		row{"(apply + '(" + items(1024) + "))", "value 1024"},
		row{"(apply + 1 1 '(" + items(1022) + "))", "value 1024"},
		row{"(apply (lambda r (length r)) '(" + items(1024) + "))", "value 1024"},
		row{"(apply 5 '(" + items(1024) + "))", `raised #<condition apply "call" 5 ` + many + ">"},
		row{"(apply car '(" + items(1024) + "))", `raised #<condition arity "car" ` + many + ">"},
		row{"(define l (list 1)) (define (f i) (if (< i 2000) (begin (set! l (cons i l)) (f (+ i 1))))) (f 0) (apply + l)", "bound"},
		// What is no list is told ahead of how long it is.
		row{"(apply + '(" + items(1025) + " . 5))", `raised #<condition type "apply" #<procedure> (` + items(1025) + ". 5)>"},
	)
	runRows(t, rows)
}

// TestWritten: how what it comes to is written, and that it has bounds.
func TestWritten(t *testing.T) {
	nested := func(n int) string {
		return "(define (f n l) (if (= n 0) l (f (- n 1) (list l)))) (define l (f " + strconv.Itoa(n) + " 1)) l"
	}
	long := func(n int) string {
		return "(define (f n l) (if (= n 0) l (f (- n 1) (cons 1 l)))) (f " + strconv.Itoa(n) + " '())"
	}
	runRows(t, []row{
		{"", "value #<void>"},
		{"car", "value #<procedure>"},
		{"(lambda (x) x)", "value #<procedure>"},
		{"(call/cc (lambda (k) k))", "value #<void>"},
		{"(list \"a\" #\\a 'a)", `value ("a" #\a a)`},
		{"(raise (list \"a\" #\\a 'a))", `raised ("a" #\a a)`},
		{"(display \"a\") (write \"a\") \"a\"", `value |a"a"| "a"`},
		{nested(99), "value " + strings.Repeat("(", 99) + "1" + strings.Repeat(")", 99)},
		{nested(100), "bound"},
		{nested(99) + " (raise l)", "raised " + strings.Repeat("(", 99) + "1" + strings.Repeat(")", 99)},
		{nested(100) + " (raise l)", "bound"},
		{long(19999), "value (" + strings.TrimSuffix(strings.Repeat("1 ", 19999), " ") + ")"},
		{long(20000), "bound"},
		{"(define l (list 1)) (set-cdr! l l) l", "bound"},
		{"(define l (list 1)) (set-cdr! l l) (raise l)", "bound"},
		{"(define l (list 1)) (set-cdr! l l) (display 1) (display l)", "bound |1|"},
		{"(define l (list 1)) (set-cdr! l l) (car (vector l))", "bound"},
		{"(expt 2 9000)", "bound"},
	})
}

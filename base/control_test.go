package base_test

import "testing"

// guard is a source whose conditions are told, not raised.
func guard(body string) string {
	return "(call/cc (lambda (out) (with-exception-handler (lambda (e) (out (if (condition? e) (list (condition-class e) (condition-message e) (condition-irritants e)) (list 'raised e)))) (lambda () " + body + "))))"
}

func TestRaise(t *testing.T) {
	runRows(t, []row{
		{"(raise 'x)", "raised x"},
		{"(raise-continuable 'x)", "raised x"},
		{"(raise (list 1 2))", "raised (1 2)"},
		{"(+ 1 (raise 2))", "raised 2"},
		{"(raise)", `raised #<condition arity "raise">`},
		{"(raise 1 2)", `raised #<condition arity "raise" 1 2>`},
		{"(raise-continuable)", `raised #<condition arity "raise-continuable">`},
		{"(raise-continuable 1 2)", `raised #<condition arity "raise-continuable" 1 2>`},
		{"(error \"a\")", `raised #<condition user "a">`},
		{"(error \"a\" 1 'b \"c\" '(d))", `raised #<condition user "a" 1 b "c" (d)>`},
		{"(error 'm)", "raised #<condition user m>"},
		{"(error '(1 2) 3)", "raised #<condition user (1 2) 3>"},
		{"(error)", `raised #<condition arity "error">`},
		{"(let ((e error)) (e 1 2))", "raised #<condition user 1 2>"},
		{"(define m \"a\") " + guard("(with-exception-handler (lambda (e) (out (eq? m (condition-message e)))) (lambda () (error m 1)))"), "value #t"},
		{"(define i (list 1)) (call/cc (lambda (k) (with-exception-handler (lambda (e) (k (list (condition-class e) (eq? i (car (condition-irritants e)))))) (lambda () (error \"a\" i)))))", "value (user #t)"},
		{guard("(raise 5)"), "value (raised 5)"},
		{guard("(error \"a\" 1)"), `value (user "a" (1))`},
		{guard("(car 5)"), `value (type "car" (5))`},
		{guard("(undefined-name)"), `value (unbound "undefined-name" ())`},
		{guard("(set! undefined-name 5)"), `value (unbound "undefined-name" ())`},
		{guard("(letrec ((a a)) 1)"), `value (unassigned "" ())`},
		{guard("((lambda (x) x) 1 2)"), `value (arity "" (1 2))`},
		{guard("(5 6)"), `value (apply "call" (5 6))`},
		{guard("(out 5 6)"), `value (arity "continuation" (5 6))`},
		{guard("(vector-ref (vector 1 2) 2)"), `value (range "vector-ref" (#(1 2) 2))`},
		{guard("(quotient 1 0)"), `value (divide "quotient" (1 0))`},
	})
}

func TestHandlers(t *testing.T) {
	runRows(t, []row{
		{"(with-exception-handler (lambda (e) 10) (lambda () (+ 1 (raise-continuable 5))))", "value 11"},
		{"(with-exception-handler (lambda (e) (* e 2)) (lambda () (+ 1 (raise-continuable 5))))", "value 11"},
		{"(with-exception-handler (lambda (e) 10) (lambda () 7))", "value 7"},
		{"(with-exception-handler (lambda (e) 10) (lambda () (+ 1 (raise 5))))", `raised #<condition noncontinuable "">`},
		{"(with-exception-handler (lambda (e) (display e) 10) (lambda () (display 0) (raise 5) (display 1)))", `raised |05| #<condition noncontinuable "">`},
		{"(with-exception-handler (lambda (e) (display (condition-class e)) 10) (lambda () (car 5)))", `raised |type| #<condition noncontinuable "">`},
		// The other handlers are told that it may not return, each in its turn.
		{"(with-exception-handler (lambda (e) (display (condition-class e))) (lambda () (with-exception-handler (lambda (e) (display e)) (lambda () (raise 5)))))", `raised |5noncontinuable| #<condition noncontinuable "">`},
		{"(call/cc (lambda (k) (with-exception-handler (lambda (e) (k (list (condition-message e) (condition-irritants e)))) (lambda () (with-exception-handler (lambda (e) 0) (lambda () (raise 5)))))))", `value ("" ())`},
		// A handler runs with the other ones.
		{"(with-exception-handler (lambda (e) (list 'outer e)) (lambda () (with-exception-handler (lambda (e) (list 'inner (raise-continuable e))) (lambda () (raise-continuable 1)))))", "value (inner (outer 1))"},
		{"(with-exception-handler (lambda (e) (raise e)) (lambda () (raise-continuable 1)))", "raised 1"},
		{"(with-exception-handler (lambda (e) (raise (list e))) (lambda () (raise 1)))", "raised (1)"},
		{"(with-exception-handler (lambda (e) (car e)) (lambda () (raise 1)))", `raised #<condition type "car" 1>`},
		{"(with-exception-handler (lambda () 1) (lambda () (raise 1)))", `raised #<condition arity "" 1>`},
		// Behind the answer the handlers are as before.
		{"(with-exception-handler (lambda (e) (+ e 1)) (lambda () (+ (raise-continuable 1) (raise-continuable 10))))", "value 13"},
		{"(with-exception-handler (lambda (e) 'outer) (lambda () (with-exception-handler (lambda (e) 'inner) (lambda () 0)) (raise-continuable 1)))", "value outer"},
		{"(with-exception-handler (lambda (e) 1) (lambda () 0)) (raise 2)", "raised 2"},
		{"(with-exception-handler (lambda (e) 'outer) (lambda () (list (with-exception-handler (lambda (e) (raise-continuable e)) (lambda () (raise-continuable 0))) (raise-continuable 1))))", "value (outer outer)"},
		// What h and t may be.
		{"(with-exception-handler car (lambda () (raise-continuable '(9))))", "value 9"},
		{"(with-exception-handler list (lambda () (raise-continuable 9)))", "value (9)"},
		{"(with-exception-handler raise (lambda () (raise-continuable 9)))", "raised 9"},
		{"(with-exception-handler error (lambda () (raise-continuable 9)))", "raised #<condition user 9>"},
		{"(call/cc (lambda (k) (with-exception-handler k (lambda () (+ 1 (raise 3))))))", "value 3"},
		{"(with-exception-handler call/cc (lambda () (raise-continuable (lambda (k) (k 4)))))", "value 4"},
		{"(with-exception-handler (lambda (e) 1) (lambda () (raise-continuable 1 2)))", `raised #<condition noncontinuable "">`},
		{"(with-exception-handler list list)", "value ()"},
		{"(with-exception-handler list (lambda (x) x))", `raised #<condition noncontinuable "">`},
		{"(with-exception-handler 5 (lambda () 1))", `raised #<condition type "with-exception-handler" 5 #<procedure>>`},
		{"(with-exception-handler 5 6)", `raised #<condition type "with-exception-handler" 5 6>`},
		{"(call/cc (lambda (k) (with-exception-handler (lambda (e) (k (list 'told (condition-class e) (condition-irritants e)))) 6)))", "value (told apply (6))"},
		{"(with-exception-handler)", `raised #<condition arity "with-exception-handler">`},
		{"(with-exception-handler 5)", `raised #<condition arity "with-exception-handler" 5>`},
		{"(with-exception-handler 5 6 7)", `raised #<condition arity "with-exception-handler" 5 6 7>`},
		// A handler is called in the place that raised.
		{"(define again #f) (define n 0) (with-exception-handler (lambda (e) (call/cc (lambda (k) (set! again k))) 1) (lambda () (display 'a) (raise-continuable 0) (display 'b) (set! n (+ n 1)) (if (< n 3) (again 0)) n))", "value |abbb| 3"},
	})
}

func TestContinuations(t *testing.T) {
	runRows(t, []row{
		{"(call/cc (lambda (k) (+ 1 (k 42))))", "value 42"},
		{"(+ 1 (call/cc (lambda (k) 1)))", "value 2"},
		{"(+ 1 (call/cc (lambda (k) (k 1) 5)))", "value 2"},
		{"(call/cc call/cc)", "value #<void>"},
		{"(procedure? (call/cc call/cc))", "value #t"},
		{"(call/cc procedure?)", "value #t"},
		{"(call/cc list)", "value (#<void>)"},
		{"(call/cc 5)", `raised #<condition apply "call" 5 #<void>>`},
		{"(call/cc (lambda () 1))", `raised #<condition arity "" #<void>>`},
		{"(call/cc)", `raised #<condition arity "call/cc">`},
		{"(call/cc car cdr)", `raised #<condition arity "call/cc" #<procedure> #<procedure>>`},
		{"((call/cc (lambda (k) k)) 1 2)", `raised #<condition arity "continuation" 1 2>`},
		{"((call/cc (lambda (k) k)))", `raised #<condition arity "continuation">`},
		{"(((call/cc (lambda (k) k)) (lambda (x) x)) 5)", `value 5`},
		{"(define k #f) (define n 0) (display (call/cc (lambda (c) (set! k c) 0))) (set! n (+ n 1)) (if (< n 4) (k n)) 'end", "value |0123| end"},
		// The slots are as they were when it was made, the boxes are the same ones.
		{"(define k #f) (define (f a b) (list a b (call/cc (lambda (c) (set! k c) 0)) a b)) (define l (f 1 2)) (if (< (length l) 5) 0 (if (eq? (car (cdr (cdr l))) 0) (k 5) l))", "value (1 2 5 1 2)"},
		{"(define k #f) (define n 0) (define (f) (let ((x 0)) (call/cc (lambda (c) (set! k c))) (set! x (+ x 1)) x)) (define r (f)) (set! n (+ n 1)) (if (< n 3) (k 0)) (list r n)", "value (3 3)"},
		{"(define k #f) (define n 0) (define r (let loop ((i 0) (s '())) (if (= i 3) s (begin (if (= i 1) (call/cc (lambda (c) (set! k c)))) (loop (+ i 1) (cons i s)))))) (set! n (+ n 1)) (if (< n 3) (k 0)) (list r n)", "value ((2 1 0) 3)"},
		// Out of a deep place, and back into it.
		{"(define (deep n k) (if (= n 0) (k 'out) (+ 1 (deep (- n 1) k)))) (call/cc (lambda (k) (deep 100 k)))", "value out"},
		{"(define k #f) (define n 0) (define (deep n) (if (= n 0) (call/cc (lambda (c) (set! k c) 0)) (+ 1 (deep (- n 1))))) (display (deep 50)) (display \" \") (set! n (+ n 1)) (if (< n 3) (k n)) 'end", "value |50 51 52 | end"},
		// Continuations made of continuations' frames.
		{"(define ks '()) (define n 0) (define (note x) (call/cc (lambda (c) (set! ks (cons c ks)) x))) (display (list (note 1) (note 2) (note 3))) (set! n (+ n 1)) (if (< n 4) ((car ks) (* n 10))) (if (= n 4) ((car (cdr (cdr ks))) 7)) n", "value |(1 2 3)(1 2 10)(1 2 20)(1 2 30)(7 2 3)| 5"},
		{"(define (gen l) (define return #f) (define (go) (call/cc (lambda (r) (set! return r) (let loop ((l l)) (if (pair? l) (begin (call/cc (lambda (next) (set! go (lambda () (next 0))) (return (car l)))) (loop (cdr l))))) (return 'end)))) (lambda () (call/cc (lambda (r) (set! return r) (go))))) (define g (gen '(1 2 3))) (let* ((a (g)) (b (g)) (c (g)) (d (g))) (list a b c d))", "value (1 2 3 end)"},
		// A continuation has its handlers.
		{"(define k #f) (define n 0) (define r (with-exception-handler (lambda (e) (list 'h e)) (lambda () (call/cc (lambda (c) (set! k c))) (raise-continuable n)))) (set! n (+ n 1)) (if (< n 3) (k 0)) r", "value (h 2)"},
		{"(with-exception-handler (lambda (e) 'outer) (lambda () (let ((k (call/cc (lambda (c) c)))) (if (procedure? k) (with-exception-handler (lambda (e) 'inner) (lambda () (k (raise-continuable 0)))) (list k (raise-continuable 0))))))", "value (inner outer)"},
	})
}

func TestWinds(t *testing.T) {
	runRows(t, []row{
		{"(dynamic-wind (lambda () (display 1)) (lambda () (display 2) 'x) (lambda () (display 3) 'y))", "value |123| x"},
		{"(dynamic-wind list list list)", "value ()"},
		{"(dynamic-wind void void void)", "value #<void>"},
		{"(dynamic-wind car (lambda () (display 1)) car)", `raised #<condition arity "car">`},
		{"(dynamic-wind void car (lambda () (display 1)))", `raised #<condition arity "car">`},
		{"(dynamic-wind void (lambda () (display 1)) car)", `raised |1| #<condition arity "car">`},
		{"(dynamic-wind 5 6 7)", `raised #<condition apply "call" 5>`},
		{"(dynamic-wind void 6 7)", `raised #<condition apply "call" 6>`},
		{"(dynamic-wind void void 7)", `raised #<condition apply "call" 7>`},
		{"(dynamic-wind)", `raised #<condition arity "dynamic-wind">`},
		{"(dynamic-wind 1 2)", `raised #<condition arity "dynamic-wind" 1 2>`},
		{"(dynamic-wind 1 2 3 4)", `raised #<condition arity "dynamic-wind" 1 2 3 4>`},
		// Out, and in again.
		{"(call/cc (lambda (k) (dynamic-wind (lambda () (display 1)) (lambda () (k 9)) (lambda () (display 3)))))", "value |13| 9"},
		{"(define k #f) (define n 0) (dynamic-wind (lambda () (display \"[\")) (lambda () (call/cc (lambda (c) (set! k c)))) (lambda () (display \"]\"))) (set! n (+ n 1)) (if (< n 3) (k 0)) n", "value |[][][]| 3"},
		{wind + "(call/cc (lambda (k) (w 1 (lambda () (w 2 (lambda () (w 3 (lambda () (k 'x)))))))))", "value |<1<2<33>2>1>| x"},
		{wind + "(define k #f) (define n 0) (w 1 (lambda () (w 2 (lambda () (call/cc (lambda (c) (set! k c))) (display n))))) (set! n (+ n 1)) (if (< n 2) (k 0)) n", "value |<1<202>1><1<212>1>| 2"},
		// From one into another that has some of its winds.
		{wind + "(define k #f) (define n 0) (w 1 (lambda () (w 2 (lambda () (w 3 (lambda () (call/cc (lambda (c) (set! k c))) (display n))))) (set! n (+ n 1)) (if (< n 2) (w 4 (lambda () (w 5 (lambda () (k 0)))))))) n", "value |<1<2<303>2><4<55>4><2<313>2>1>| 2"},
		// Where all winds are the same, nothing is called.
		{wind + "(w 1 (lambda () (let ((k (call/cc (lambda (c) c)))) (if (procedure? k) (k 5) k))))", "value |<11>| 5"},
		// Two calls of dynamic-wind with the same procedures are two winds.
		{wind + "(define k #f) (define n 0) (define (go) (w 1 (lambda () (call/cc (lambda (c) (if k 0 (set! k c)))) (set! n (+ n 1)) (if (= n 2) (k 0)) n))) (go) (go)", "value |<11><11><11><11>| 4"},
		// A before that returns twice puts the same wind there.
		{"(define kb #f) (define kt #f) (define n 0) (dynamic-wind (lambda () (call/cc (lambda (c) (set! kb c))) (display \"<\")) (lambda () (set! n (+ n 1)) (if (= n 1) (begin (call/cc (lambda (c) (set! kt c))) (set! n (+ n 1)))) (display n) (if (= n 2) (kb 0)) (if (= n 3) (kt 0)) n) (lambda () (display \">\")))", "value |<2><34>| 4"},
		// Out of a before, an after.
		{wind + "(call/cc (lambda (k) (dynamic-wind (lambda () (k 'x)) (lambda () (display 1)) (lambda () (display 2)))))", "value x"},
		{wind + "(w 1 (lambda () (call/cc (lambda (k) (dynamic-wind void (lambda () (display 2)) (lambda () (k 'x)))))))", "value |<121>| x"},
		{wind + "(call/cc (lambda (a) (call/cc (lambda (b) (dynamic-wind void (lambda () (b 1)) (lambda () (display 2) (a 3))))) (display 'no)))", "value |2| 3"},
		// An after on the way to a continuation has the winds outside of it alone.
		{wind + "(call/cc (lambda (k) (w 1 (lambda () (dynamic-wind void (lambda () (k 'x)) (lambda () (w 2 (lambda () (display 3)))))))))", "value |<1<232>1>| x"},
		// An after may be left in the midst, and gone on with.
		{wind + "(define again #f) (define n 0) (define r (call/cc (lambda (k) (w 1 (lambda () (dynamic-wind void (lambda () (k 'x)) (lambda () (display 'a) (call/cc (lambda (c) (set! again c))) (display 'b)))))))) (set! n (+ n 1)) (if (< n 3) (again 0)) r", "value |<1ab1><1b1><1b1>| x"},
		{wind + "(define again #f) (define k #f) (define n 0) (define r (dynamic-wind (lambda () (display 'a) (call/cc (lambda (c) (set! again c))) (display 'b)) (lambda () (call/cc (lambda (c) (set! k c) 0))) (lambda () (display 'c)))) (set! n (+ n 1)) (if (= n 1) (k n)) (if (< n 4) (again 0)) (list r n)", "value |abcabcbcbc| (1 4)"},
	})
}

// wind defines a wind that tells when it is entered and left.
const wind = "(define (w n t) (dynamic-wind (lambda () (display \"<\") (display n)) t (lambda () (display n) (display \">\")))) "

// TestWindHandlers: befores and afters on the way to a continuation have the handlers that were there when dynamic-wind was called.
func TestWindHandlers(t *testing.T) {
	within := func(name, body string) string {
		return "(with-exception-handler (lambda (e) (display '" + name + ") 0) (lambda () " + body + "))"
	}
	runRows(t, []row{
		{within("a", "(call/cc (lambda (k) (dynamic-wind void (lambda () "+within("b", "(k (raise-continuable 1))")+") (lambda () (raise-continuable 2)))))"), "value |ba| 0"},
		{"(define k #f) (define n 0) " + within("a", "(dynamic-wind (lambda () (raise-continuable 1)) (lambda () "+within("b", "(begin (call/cc (lambda (c) (set! k c))) (raise-continuable 2))")+") (lambda () (raise-continuable 3)))") + " (set! n (+ n 1)) (if (< n 2) " + within("c", "(begin (raise-continuable 4) (k 0))") + ") n", "value |abacaba| 2"},
		// Behind them the handlers are the continuation's.
		{within("a", "(let ((n (call/cc (lambda (k) (dynamic-wind void (lambda () "+within("b", "(k 5)")+") void))))) (raise-continuable n))"), "value |a| 0"},
		// What is raised there without handlers ends the run.
		{"(call/cc (lambda (k) (dynamic-wind void (lambda () " + within("b", "(k 5)") + ") (lambda () (raise 'x)))))", "raised x"},
		{"(define k #f) (define n 0) (call/cc (lambda (out) (dynamic-wind (lambda () (set! n (+ n 1)) (if (= n 2) (raise 'x))) (lambda () (call/cc (lambda (c) (set! k c))) (out 0)) void))) " + within("a", "(k 0)"), "raised x"},
		{"(dynamic-wind void (lambda () (raise 1)) (lambda () (display 'never)))", "raised 1"},
		{"(define (f) (dynamic-wind (lambda () 0) (lambda () (error \"x\")) (lambda () (display \"out\")))) (call/cc (lambda (k) (with-exception-handler (lambda (e) (k 'done)) f)))", "value |out| done"},
	})
}

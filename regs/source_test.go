package regs_test

// sources are programs of which code is built: of each, all procedures and loops.
func sources() []string {
	return []string{
		"(define (f x) (+ x 1)) (define (g x y) (if (< x 0) (f y) (if (= x 0) 'zero (f (* x y)))))",
		"(define (f n) (do ((i 0 (+ i 1)) (s 0 (+ s (* i 2)))) ((>= i n) (list s \"a\" 'b)) (if (odd? i) (set! n n))))",
		"(define (g x) (if (< x 0) 'neg (if (= x 0) 'zero 'pos))) (define (f n) (list (g 5) (g (g -7)) (if (g 9) (g 8)) (g n)))",
		"(define (f n) (do ((k 0 k) (i 5 7)) ((= k n) i) (if (= i 5) 3 i) (display k)))",
		"(define (f x) (not (not (if (+ 1 2) (if (not #f) (car x) 2) (cdr x)))))",
		"(define (f l) (let loop ((l l) (n 0)) (if (pair? l) (loop (cdr l) (+ n 1)) n)))",
		"(define (f x) (let ((y (* 1152921504606846976 1))) (if (< y x) (+ y y) (- y (+ x 1)))))",
		"(define (g a . r) (if (null? r) a (car r))) (define (f x) (g (g 1) (g 2 3) (g x x)))",
		"(define (f a b) (set! a (+ a b)) (set! g a) (let ((h (lambda () (set! b (+ b 1)) (+ a b)))) (h)))",
		"(define (f a) (letrec ((e (lambda (n) (if (= n 0) a (o (- n 1))))) (o (lambda (n) (if (= n 0) #f (e (- n 1)))))) (e a)))",
		"(define (f n) (do ((i 3 (- i 1)) (x 'none i)) ((<= i 0) x) (do ((j 0 (+ j 1))) ((> j 2)) (write (* i j)))))",
		"(define (f x) (and (or (= 1 2) x) (begin 1 2 x) (+ (+ 1 2) (* 3 4) x)))",
		"(define (f x) (let loop ((i 0)) (loop 5))) (define (h x) (do ((x x (- x 1))) (#f)))",
		"(define (f x) (+ x 'a)) (define (g x) (car (+ x 1))) (define (h x) ((if (= 1 1) f g) x)) (define (k x) (if (* x x) 1 (vector x)))",
		"(define (f x) (+ 2305843009213693951 1)) (define (g x) (* -1152921504606846976 2)) (define (h x) (- (- 2305843009213693951) 2))",
	}
}

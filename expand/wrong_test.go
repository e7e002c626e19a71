package expand_test

import (
	"strings"
	"testing"

	"tandem/api"
	"tandem/expand"
)

func noFormRows() []string {
	return []string{
		"()", "(1 . 2)", "(f . x)", "(f 1 . 2)", "if", "else", "=>", "...", "_", "unquote", "define", "syntax-rules",
		"(else)", "(else 1)", "(=> 1)", "(... 1)", "(_ 1)", "(unquote 1)", "(unquote-splicing 1)", "(syntax-rules ())", "(f (define x 1))", "(f (define-syntax m (syntax-rules ())))", "(if 1 (define x 1))", "(begin 1 (if))", "(f (begin))", "(f ())",
		"(quote)", "(quote 1 2)", "(quote . 1)", "(if)", "(if 1)", "(if 1 2 3 4)", "(if 1 2 . 3)",
		"(lambda)", "(lambda ())", "(lambda (x))", "(lambda (1) 1)", "(lambda (x . 1) 1)", "(lambda 1 1)", "(lambda (x x) 1)", "(lambda (x . x) 1)", "(lambda #(x) 1)", "(lambda ((x)) 1)", "(lambda (x) . 1)",
		"(set!)", "(set! x)", "(set! x 1 2)", "(set! 1 2)", "(set! (x) 2)", "(set! car)",
		"(let)", "(let x)", "(let ())", "(let ((x 1)))", "(let ((x)) 1)", "(let ((x 1 2)) 1)", "(let (x) 1)", "(let ((1 2)) 3)", "(let ((x . 1)) 2)", "(let ((x 1) . y) 2)", "(let ((x 1) (x 2)) 3)", "(let 5 6)", "(let #() 1)", "(let \"f\" () 1)", "(let () . 1)",
		"(let f)", "(let f ())", "(let f ((x 1)))", "(let f ((x 1) (x 2)) 3)", "(let f x 1)", "(let f ((1 2)) 3)",
		"(let*)", "(let* ())", "(let* ((x 1)))", "(let* ((x)) 1)", "(let* x ((y 1)) 2)", "(let* ((1 2)) 3)", "(letrec)", "(letrec ())", "(letrec ((x 1) (x 2)) 3)", "(letrec ((x)) 1)", "(letrec f () 1)", "(letrec*)", "(letrec* ((x 1)))", "(letrec* ((x 1) (x 2)) 3)",
		"(cond)", "(cond 1)", "(cond ())", "(cond (1 . 2))", "(cond (else))", "(cond (else 1) (2 3))", "(cond (1 =>))", "(cond (1 => 2 3))", "(cond (else => car))", "(cond (=> 1))", "(cond (1 2) . 3)", "(cond (1 (else)))",
		"(case)", "(case 1)", "(case 1 2)", "(case 1 ())", "(case 1 (2 3))", "(case 1 (x 3))", "(case 1 ((2)))", "(case 1 ((2 . 3) 4))", "(case 1 (#(2) 4))", "(case 1 (else))", "(case 1 (else 2) ((3) 4))", "(case 1 ((2) . 3))", "(let ((else 1)) (case 1 (else 2)))",
		"(when)", "(when 1)", "(unless)", "(unless 1)",
		"(do)", "(do ())", "(do () ())", "(do () 1)", "(do 1 (1))", "(do (x) (1))", "(do ((x)) (1))", "(do ((x 1 2 3)) (1))", "(do ((1 2)) (1))", "(do ((x 1) (x 2)) (1))", "(do () (1 . 2))", "(do ((x 1) . y) (1))", "(do ((x 1 . 2)) (1))",
		"(define)", "(define x)", "(define x 1 2)", "(define 1 2)", "(define ((f) x) 1)", "(define (1 x) 2)", "(define () 1)", "(define (f))", "(define (f x x) 1)", "(define (f 1) 1)", "(define (f . 1) 1)", "(define #(f) 1)", "(define x . 1)", "(define (car))", "(define car)",
		"(lambda () (define x 1))", "(lambda () (begin))", "(lambda () (define-syntax m (syntax-rules ())))", "(lambda () 1 (define x 1))", "(lambda () 1 (define-syntax m (syntax-rules ())) 2)", "(lambda () 1 (begin))", "(lambda () (begin 1 (define x 2)) 3)", "(lambda () (define x 1) (define x 2) x)", "(lambda () (define x 1) (define-syntax x (syntax-rules ())) 1)", "(lambda () (define-syntax x (syntax-rules ())) (define (x) 1) 1)", "(lambda () (define x) 1)", "(lambda () (define 1 2) 3)", "(lambda () (define-syntax m) 1)", "(let () (define x 1) (begin))",
		"(let-syntax)", "(let-syntax ())", "(let-syntax ((m)) 1)", "(let-syntax ((m 1)) 1)", "(let-syntax ((m (syntax-rules ())) (m (syntax-rules ()))) 1)", "(let-syntax m 1)", "(let-syntax ((1 (syntax-rules ()))) 1)", "(letrec-syntax)", "(letrec-syntax ())", "(letrec-syntax ((m 1)) 1)", "(letrec-syntax ((m (syntax-rules ())) (m (syntax-rules ()))) 1)", "(let-syntax () (define x 1))",
		"(and . 1)", "(or 1 . 2)", "(begin . 1)", "(begin 1 . 2)",
	}
}

func noNameRows() []string {
	return []string{
		"(set! car 1)", "(set! if 1)", "(set! else 1)", "(set! ... 1)", "(lambda (x) (set! apply x))", "(define car 1)", "(define (car x) 1)", "(define if 1)", "(define (if) 1)", "(define else 1)", "(define _ 1)", "(begin 1 (define error 1))",
		rules("() ((_ x) (define x 1))") + "(m car)", rules("() ((_) (define car 1))") + "(m)", rules("() ((_) (set! car 1))") + "(m)", rules("() ((_) (define m 1))") + "(m)", rules("() ((_) (set! m 1))") + "(m)",
	}
}

func TestNoForms(t *testing.T) {
	for _, s := range noFormRows() {
		fails(t, s, api.ErrForm)
	}
}

func TestNoNames(t *testing.T) {
	for _, s := range noNameRows() {
		fails(t, s, api.ErrName)
	}
}

// P8.1: the shape of a form goes ahead of its parts, then from the outside in, left to right. ErrName is that of (set! car 1), which stands for a wrong part; the other error is ErrForm, or where that is what the part has, ErrName.
func TestFirstError(t *testing.T) {
	const name = "(set! car 1)"
	for _, s := range []string{
		"(if " + name + ")", "(if " + name + " 1 2 3)", "(lambda (x x) " + name + ")", "(let ((x " + name + ")))", "(let ((x " + name + ") (x 1)) 1)", "(let ((x " + name + ") (y)) 1)", "(let f ((x " + name + ") (x 1)) 1)", "(let* ((x " + name + ") y) 1)", "(letrec ((x " + name + ")))", "(cond (" + name + " 1) 5)", "(cond (" + name + " 1) ())", "(cond (" + name + " 1) (2 =>))", "(cond (" + name + " 1) (else))", "(cond (else " + name + ") (1 2))", "(case " + name + ")", "(case " + name + " ((1)))", "(case 1 ((1) " + name + ") 5)", "(when " + name + ")", "(do ((x " + name + ") (x 2)) (1))", "(do ((x " + name + ")) ())", "(set! 5 " + name + ")", "(set! x " + name + " 1)", "(define 5 " + name + ")", "(define x " + name + " 1)",
		"(lambda () (define x " + name + "))", "(lambda () (define x " + name + ") (define x 1) 1)", "(lambda () (define x " + name + ") (define y) 1)", "(f (if) " + name + ")", "(begin (if) " + name + ")", "(f (begin) . " + name + ")", "(let-syntax ((m 1)) " + name + ")", "(f (f (if)) " + name + ")", "(if (if) " + name + ")", "(let ((x (if))) " + name + ")", "(let* ((x (if)) (y " + name + ")) 1)", "(case (if) ((1) " + name + "))", "(cond ((if) " + name + "))", "(or (if) " + name + ")", "`(,(if) ,@" + name + ")", "`(,(if) . ," + name + ")", "(lambda () (define x (if)) " + name + ")", "(lambda () (define (f x x) 1) " + name + ")",
		// The parts of a core form, as they stand in it.
		"(let f ((x " + name + ")) (if))", "(do ((x 1 " + name + ")) ((if)))", "(do ((x 1 " + name + ")) (1 (if)))", "(do ((x 1 " + name + ")) (1) (if))", "(do ((x (if) 1)) (" + name + "))", "(cond (1 => (if)) (else " + name + "))",
	} {
		fails(t, s, api.ErrForm)
		if strings.Contains(s, "(if)") {
			turned := strings.NewReplacer("(if)", name, name, "(if)").Replace(s)
			fails(t, turned, api.ErrName)
		}
	}
	for _, s := range []string{"(set! car (if))", "(define car (if))", "(define (car x x) 1)", "(define (car) (if))", "(define (if . 5) 1)"} {
		fails(t, s, api.ErrName)
	}
	for _, s := range []string{rules("() ((_) 1)") + "(f (m 1) (if))", rules("() ((_) 1)") + "(lambda () (define x (if)) (m 1))", rules("() ((_) 1)") + "(lambda () (define (f x x) 1) (m 1))"} {
		fails(t, s, api.ErrMatch)
	}
	fails(t, "(lambda () (define x 1) (define-syntax x (syntax-rules () ((_ y y) 1))) 1)", api.ErrForm)
}

// P8.1: the place is that of the first datum that is wrong.
func TestPlace(t *testing.T) {
	for s, want := range map[string]int{
		"(if) (if)": 0, "1 (if) 2": 1, "1 2 3 (begin 1 (begin (if)))": 3, "(define x 1) (define car 1) (if)": 1, "(define-syntax m (syntax-rules () ((_) (if)))) 1 (m)": 2, "(begin) (begin) (begin (begin) ())": 2,
	} {
		forms, at, e := expand.Program(all(s))
		if at != want || e == api.OK || forms != nil {
			t.Errorf("%s: error %d at %d, %s", s, e, at, toldAll(forms))
		}
	}
}

// Data of other kinds are no expressions.
func TestNoKinds(t *testing.T) {
	for kind := -1; kind < 13; kind++ {
		d := api.Datum{Kind: kind, Text: "x", Items: []api.Datum{symbol("f")}}
		_, _, e := expand.Program([]api.Datum{d})
		_, _, inner := expand.Program([]api.Datum{list(symbol("f"), d)})
		ok := kind >= api.Int && kind <= api.Void
		if ok != (e == api.OK) || inner != e || !ok && e != api.ErrForm {
			t.Errorf("kind %d: error %d, %d", kind, e, inner)
		}
	}
	failsData(t, []api.Datum{dotted(list(symbol("x")), symbol("f"))}, api.ErrForm)
	failsData(t, []api.Datum{dotted(list(symbol("f")))}, api.ErrForm)
	failsData(t, []api.Datum{dotted(list(whole(1)), symbol("quote"))}, api.ErrForm)
	failsData(t, []api.Datum{list(symbol("let"), dotted(list(), list(symbol("x"), whole(1))), whole(2))}, api.ErrForm)
}

package expand_test

import (
	"testing"

	"tandem/api"
	"tandem/expand"
)

// rules is a definition of the global macro m.
func rules(all string) string { return "(define-syntax m (syntax-rules " + all + ")) " }

func macroRows() []row {
	return []row{
		{rules("() ((_) 1)") + "(m)", "'1"}, {rules("() ((_ x) 1) ((_ x y) 2) ((_ . x) 'x)") + "(m a) (m a b) (m) (m a b c)", "'1; '2; '(); '(a b c)"}, {rules("() ((_ x . y) '(y x))") + "(m 1 2 3)", "'((2 3) 1)"}, {rules("() ((_ x ...) '(x ... end))") + "(m) (m 1 2)", "'(end); '(1 2 end)"}, {rules("() ((_ (x y ...) ...) '((y ... x) ...))") + "(m (1) (2 3 4))", "'((1) (3 4 2))"}, {rules("() ((_ x ... y) '(y x ...))") + "(m 1) (m 1 2 3)", "'(1); '(3 1 2)"}, {rules("() ((_ #(x ...)) '#(x ... 0))") + "(m #(1 2))", "'#(1 2 0)"}, {rules("() ((_ (x ...) ...) '(x ... ...))") + "(m (1 2) () (3))", "'(1 2 3)"},
		{rules("() ((_ 1) 'one) ((_ \"a\") 'text) ((_ #t) 'yes) ((_ ()) 'none) ((_ #()) 'empty) ((_ x) 'other)") + "(m 1) (m \"a\") (m #t) (m ()) (m #()) (m 2)", "'one; 'text; 'yes; 'none; 'empty; 'other"},
		{rules("() ((_ x) x)") + "(m (m (m 1)))", "'1"}, {rules("() ((_ x y) (x y))") + "(m car 1) (m quote z) (m (lambda (x) x) y)", "(%car '1); 'z; ((fn:[0] 0) y)"}, {rules("()"), ""}, {rules("() ((m m) 'm) ((... x y) '(x y)) ((5 x y z) '(z y x))") + "(m 1) (m 1 2) (m 1 2 3)", "'1; '(1 2); '(3 2 1)"},
		{rules("() ((_ (x . y)) '(y x)) ((_ #(x y ...) z) '(x (y ...) z))") + "(m (1)) (m (1 . 2)) (m (1 2 . 3)) (m #(1) 2) (m #(1 2 3) 4)", "'(() 1); '(2 1); '((2 . 3) 1); '(1 () 2); '(1 (2 3) 4)"}, {rules("() ((_ x) (begin))") + "(m 1) (lambda () (m 1) 2)", "(fn:[] '2)"},
	}
}

func literalRows() []row {
	return []row{
		{rules("(else) ((_ else x) 'lit) ((_ y x) 'var)") + "(m else 1) (m other 1) (let ((else 2)) (m else 1)) (m 5 1)", "'lit; 'var; (let[0] '2 'var); 'var"},
		{rules("(foo) ((_ foo) 'lit) ((_ y) 'var)") + "(m foo) (m bar) (lambda (foo) (m foo)) (define foo 1) (m foo)", "'lit; 'var; (fn:[0] 'var); (def foo '1); 'lit"},
		{"(let ((foo 1)) (let-syntax ((m (syntax-rules (foo) ((_ foo) 'lit) ((_ y) 'var)))) (m foo) (let ((foo 2)) (m foo))))", "(let[0] '1 {'lit (let[1] '2 'var)})"},
		{rules("(=>) ((_ a => b) b)") + "(m 1 => 2)", "'2"}, {rules("(a b) ((_ a ... b ) 'lit) ((_ x ...) 'var)") + "(m a a b) (m b) (m a b b) (m a 1 b)", "'lit; 'lit; 'var; 'var"}, {rules("(a) ((_ a a) 'two) ((_ (a x) ...) '(x ...)) ((_ #(a)) 'v) ((_ q . a) 'rest)") + "(m a a) (m (a 1) (a 2)) (m #(a)) (m)", "'two; '(1 2); 'v; '()"},
		{rules("(...) ((_ ...) 'dots) ((_ x) 'var)") + "(m ...) (m 1)", "'dots; 'var"}, {rules("(_) ((m _) 'blank) ((m x) 'var)") + "(m _) (m 1) (lambda (_) (m _))", "'blank; 'var; (fn:[0] 'var)"}, {rules("(x) ((_ x y) '(x y))") + "(m x 1)", "'(x 1)"},
		// A symbol that a variable captures stays itself.
		{rules("(foo) ((_ foo x) (let ((x 1)) (f x foo)))") + "(m foo foo)", "(let[0] '1 (f 0 foo))"},
		{"(define-syntax n (syntax-rules () ((_ x) (m foo x)))) " + rules("(foo) ((_ foo x) (let ((x 1)) x)) ((_ y x) 'no)") + "(n foo) (n bar) (let ((foo 1)) (n foo))", "(let[0] '1 0); (let[1] '1 1); (let[2] '1 (let[3] '1 3))"},
		// Two literals that mean the same.
		{"(define-syntax mk (syntax-rules () ((_ n foo2) (define-syntax n (syntax-rules (foo foo2) ((_ foo foo2) 'both) ((_ x y) 'no)))))) (mk n foo) (n foo foo) (n foo bar)", "'both; 'no"},
		// What a literal means is asked when the macro is used.
		{rules("(foo) ((_ foo) 'lit) ((_ y) 'var)") + "(define-syntax foo (syntax-rules () ((_) 1))) (m foo)", "'lit"},
		{"(define-syntax k (syntax-rules () ((_) (n else)))) (define-syntax n (syntax-rules (else) ((_ else) 'lit) ((_ x) 'var))) (k) (let ((else 1)) (k))", "'lit; (let[0] '1 'lit)"},
	}
}

func hygieneRows() []row {
	return []row{
		{rules("() ((_ x) (if x x 1))") + "(let ((if 5)) (m if))", "(let[0] '5 (if 0 0 '1))"},
		{rules("() ((_ x) (let ((t 1)) (f t x)))") + "(let ((t 2)) (m t)) (m t)", "(let[0] '2 (let[1] '1 (f 1 0))); (let[2] '1 (f 2 t))"},
		{rules("() ((_ x) (let ((x 1)) x))") + "(m y) (m let)", "(let[0] '1 0); (let[1] '1 1)"},
		{rules("() ((_ v e) (let ((v 1) (t 2)) e))") + "(m t t) (m x (f x t))", "(let[0 1] '1 '2 0); (let[2 3] '1 '2 (f 2 t))"},
		{"(let ((x 1)) (let-syntax ((m (syntax-rules () ((_) x)))) (let ((x 2)) (m))))", "(let[0] '1 (let[1] '2 0))"},
		{"(let ((x 1)) (let-syntax ((m (syntax-rules () ((_ y) (let ((x 3)) (f x y)))))) (let ((x 2)) (m x))))", "(let[0] '1 (let[1] '2 (let[2] '3 (f 2 1))))"},
		{rules("() ((_) (car x))") + "(let ((car 1) (x 2)) (m))", "(let[0 1] '1 '2 (%car x))"},
		{rules("() ((_ x) (lambda (t x . t2) (f t x t2)))") + "(m t) (m t2)", "(fn:[0 1 2 *] (f 0 1 2)); (fn:[3 4 5 *] (f 3 4 5))"},
		{rules("() ((_ n v) (define n v))") + "(m x 1) (lambda () (m y 2) y)", "(def x '1); (fn:[] (rec[0] '2 0))"},
		{rules("() ((_) (define hidden 1))") + "(m) hidden", "(def hidden '1); hidden"},
		{rules("() ((_) (begin (define hidden (lambda () hidden)) (set! hidden 2) (hidden)))") + "(m)", "(def hidden (fn:hidden[] hidden)); (hidden! '2); (hidden)"},
		{rules("() ((_) (lambda () (define x 1) (define (y) x) y))") + "(m)", "(fn:[] (rec[0 1] '1 (fn:y[] 0) 1))"},
		{rules("() ((_ x) (do ((i 0 (+ i 1))) ((= i x)) x))") + "(let ((i 9)) (m i))", "(let[0] '9 (loop[1] '0 (if (%= 1 0) '#<void> {0 (again (%+ 1 '1))})))"},
		{rules("() ((_ e) (let loop () (when e (loop))))") + "(let ((loop 9)) (m loop))", "(let[0] '9 ((rec[1] (fn:loop[] (if 0 (1) '#<void>)) 1)))"},
		{rules("() ((_ x) '(x y #(z x)))") + "(m a)", "'(a y #(z a))"}, {rules("() ((_ x) `(x y ,x ,(let ((y 1)) y)))") + "(m a)", "(%cons 'a (%cons 'y (%cons a (%cons (let[0] '1 0) '()))))"}, {rules("() ((_ x) #(x y))") + "(m a)", "'#(a y)"},
		{rules("() ((_ a) (cond (a => (lambda (x) x)) (else 1)))") + "(let ((else 5) (=> 6)) (m else))", "(let[0 1] '5 '6 (let[2] 0 (if 2 ((fn:[3] 3) 2) '1)))"},
		{rules("() ((_ a b) (cond (1 a b)))") + "(m => car) (let ((=> 1)) (m => car))", "(let[0] '1 (if 0 (%car 0) '#<void>)); (let[1] '1 (if '1 {1 %car} '#<void>))"},
		// Macros that make macros.
		{"(define-syntax mk (syntax-rules () ((_ n) (define-syntax n (syntax-rules () ((_ e (... ...)) (car e (... ...)))))))) (mk q) (q 1 2)", "(%car '1 '2)"},
		{"(define-syntax mk (syntax-rules () ((_ n v) (define-syntax n (syntax-rules () ((_ x) (let ((t v)) (f t x)))))))) (mk q t) (let ((t 1)) (q t))", "(let[0] '1 (let[1] t (f 1 0)))"},
		{"(define-syntax mk (syntax-rules () ((_) (define-syntax helper (syntax-rules () ((_) 1)))))) (mk) (helper)", "'1"},
		{"(lambda () (define-syntax mk (syntax-rules () ((_ n) (begin (define-syntax helper (syntax-rules () ((_) 1))) (define-syntax n (syntax-rules () ((_) (helper)))))))) (mk a) (mk b) (f (a) (b) (helper)))", "(fn:[] (f '1 '1 (helper)))"},
		{"(let-syntax ((f (syntax-rules () ((_ x) (g x))))) (f 1))", "(g '1)"}, {"(let-syntax ((f (syntax-rules () ((_ x) (f x 2))))) (f 1))", "(f '1 '2)"}, {"(let-syntax ((f (syntax-rules () ((_) 1))) (g (syntax-rules () ((_) (f))))) (g))", "(f)"}, {"(letrec-syntax ((f (syntax-rules () ((_) 1))) (g (syntax-rules () ((_) (f))))) (g))", "'1"},
		{"(letrec-syntax ((e (syntax-rules () ((_) #t) ((_ x . r) (o . r)))) (o (syntax-rules () ((_) #f) ((_ x . r) (e . r))))) (e 1 2 3))", "'#f"},
		{"(define-syntax my-or (syntax-rules () ((_) #f) ((_ e) e) ((_ e r ...) (let ((t e)) (if t t (my-or r ...)))))) (let ((t 5)) (my-or #f t))", "(let[0] '5 (let[1] '#f (if 1 1 0)))"},
		{rules("() ((_ (x e) ...) (let ((x e) ...) (list x ...)))") + "(m (a 1) (b 2))", "(let[0 1] '1 '2 (%list 0 1))"}, {rules("() ((_ x ...) (lambda (x ... y) y))") + "(m y z)", "(fn:[0 1 2] 2)"},
		// A macro's symbol is the user's in a quote only.
		{rules("() ((_ x) (let ((x 1)) (let ((y 2)) '(x y))))") + "(m y)", "(let[0] '1 (let[1] '2 '(y y)))"},
	}
}

// What is an ellipsis, or a blank, hangs on what it means where the macro is defined.
func ellipsisRows() []row {
	return []row{
		{rules("() ((_ x) '(x (... ...)))") + "(m 1)", "'(1 ...)"}, {rules("() ((_) '(... (... ...)))") + "(m)", "'(... ...)"}, {rules("() ((_ x) '#((... ...) x))") + "(m 1)", "'#(... 1)"}, {rules("() ((_ x ...) '((x (... ...)) ...))") + "(m 1 2)", "'((1 ...) (2 ...))"}, {rules("() ((_ x) '(... (x ... . x)))") + "(m 1)", "'(1 ... . 1)"},
		{"(let ((... 1)) (let-syntax ((m (syntax-rules () ((_ x ...) '(... x ...))))) (m 2 3)))", "(let[0] '1 '(3 2 3))"},
		{"(let ((... 1)) (let-syntax ((m (syntax-rules () ((_ x) (f ... x))))) (m 2)))", "(let[0] '1 (f 0 '2))"},
		{"(let ((_ 1)) (let-syntax ((m (syntax-rules () ((m _) '(_ _))))) (m 2)))", "(let[0] '1 '(2 2))"}, {rules("() ((_ _ _) '_)") + "(m 1 2)", "'_"},
		{"(let-syntax ((m (syntax-rules () ((_ x ...) '(x ...))))) (let ((... 1)) (m 2 3 4)))", "(let[0] '1 '(2 3 4))"},
		{rules("() ((_ x ...) '(x ...))") + "(define-syntax ... (syntax-rules () ((_) 5))) (m 1 2 3) (...)", "'(1 2 3); '5"},
		{"(define-syntax mk (syntax-rules () ((_ n) (define-syntax n (syntax-rules () ((k _ _ x (... ...)) '(x (... ...)))))))) (mk q) (q 1 2 3 4)", "'(3 4)"},
		{"(define-syntax mk (syntax-rules () ((_ n dots) (define-syntax n (syntax-rules () ((k x dots) '(x dots))))))) (mk q ...) (q 1 2 3)", "'(1 2 3)"},
		{"(define-syntax mk (syntax-rules () ((_ n) (define-syntax n (syntax-rules () ((k (x y (... ...)) (... ...)) '((y (... ...) x) (... ...)))))))) (mk q) (q (1 2 3) (4))", "'((2 3 1) (4))"},
		// Names that are bound by a macro's scope are so in its rules.
		{"(letrec-syntax ((... (syntax-rules () ((_ x ...) '(x ...))))) (... 1 2))", "'(1 2)"}, {"(let-syntax ((... (syntax-rules () ((_ x ...) '(x ...))))) (... 1 2 3))", "'(1 2 3)"}, {"(lambda () (define-syntax _ (syntax-rules () ((k _) '(_)))) (_ 1))", "(fn:[] '(1))"},
		{"(define-syntax ... (syntax-rules () ((_ x ...) '(x ...)))) (... 1 2 3)", "'(1 2 3)"},
		// A literal that is an ellipsis is none in patterns, in templates it is one.
		{rules("(...) ((_ (x ...) ...) '(x 1))") + "(m (2 ...) ...)", "'(2 1)"},
	}
}

func TestMacros(t *testing.T)   { comeAll(t, macroRows()) }
func TestLiterals(t *testing.T) { comeAll(t, literalRows()) }
func TestHygiene(t *testing.T)  { comeAll(t, hygieneRows()) }
func TestEllipses(t *testing.T) { comeAll(t, ellipsisRows()) }

func noMacroRows() []string {
	return []string{
		"(define-syntax m 5)", "(define-syntax m syntax-rules)", "(define-syntax m (syntax-rules))", "(define-syntax m (syntax-rules 5))", "(define-syntax m (syntax-rules (5)))", "(define-syntax m (syntax-rules (a . b)))", "(define-syntax m (syntax-rules #()))", "(define-syntax m (syntax-rules () 5))", "(define-syntax m (syntax-rules () ()))", "(define-syntax m (syntax-rules () ((_))))", "(define-syntax m (syntax-rules () ((_) 1 2)))", "(define-syntax m (syntax-rules () (_ 1)))", "(define-syntax m (syntax-rules () (() 1)))", "(define-syntax m (syntax-rules () (#(_) 1)))", "(define-syntax m (syntax-rules () ((_) . 1)))", "(define-syntax m (syntax-rules () . 1))", "(define-syntax m (lambda () 1))", "(define-syntax m ((syntax-rules () ((_) 1))))",
		"(define-syntax m)", "(define-syntax m (syntax-rules ()) 1)", "(define-syntax 5 (syntax-rules ()))", "(define-syntax (m) (syntax-rules ()))", "(define-syntax)", "(define-syntax m . 5)",
		"(let ((syntax-rules 1)) (let-syntax ((m (syntax-rules ()))) 1))", "(letrec-syntax ((syntax-rules (syntax-rules ()))) 1)", "(lambda () (define-syntax syntax-rules (syntax-rules ())) 1)",
		// Shapes go ahead of patterns.
		"(define-syntax m (syntax-rules () ((_ x x) 1) 5))", "(define-syntax m (syntax-rules (5) ((_ x x) 1)))", "(let-syntax ((m (syntax-rules () ((_ x x) 1))) (m (syntax-rules ()))) 1)", "(let-syntax ((m (syntax-rules () ((_ x x) 1)))))", "(lambda () (define m 1) (define-syntax m (syntax-rules () ((_ x x) 1))) 1)",
	}
}

func noPatternRows() []string {
	return []string{
		rules("() ((_ x x) 1)"), rules("() ((_ x (x)) 1)"), rules("() ((_ x . x) 1)"), rules("() ((_ ...) 1)"), rules("() ((_ x ... ...) 1)"), rules("() ((_ x ... y ...) 1)"), rules("() ((_ . ...) 1)"), rules("() ((_ x . ...) 1)"), rules("() ((_ #(...)) 1)"), rules("() ((_) 1) ((_ x) 2) ((_ y (...)) 1)"), "(let-syntax ((m (syntax-rules () ((_ x x) 1)))) 1)", "(letrec-syntax ((m (syntax-rules () ((_ x x) 1)))) 1)", "(lambda () (define-syntax m (syntax-rules () ((_ x x) 1))) 1)", "(let ((_ 1)) (let-syntax ((m (syntax-rules () ((m _ _) 1)))) 1))", "(let ((... 1)) (let-syntax ((m (syntax-rules () ((_ (a ...) (b ...)) 1)))) 1))",
		"(define-syntax mk (syntax-rules () ((_ x) (define-syntax n (syntax-rules () ((_ x x) 1)))))) (mk a)", "(define-syntax mk (syntax-rules () ((_) (define-syntax n (syntax-rules () ((_ (... ...)) 1)))))) (mk)",
	}
}

// Uses that no rule takes, and templates that are wrong when they are filled.
func noUseRows() []string {
	return []string{
		rules("() ((_) 1)") + "(m 2)", rules("()") + "(m)", rules("(a) ((_ a) 1)") + "(m b)", rules("(a) ((_ a) 1)") + "(let ((a 1)) (m a))", rules("(a) ((_ a) 1)") + "(m 5)", rules("(a) ((_ (a ...)) 1)") + "(m (a b))", rules("() ((_ (x)) 1)") + "(m 1)", rules("() ((_ 1 x) 1)") + "(m 2 3)", rules("() ((_ x) 1)") + "(f (m))", rules("() ((_ x) 1)") + "(lambda () (m))", "(let-syntax ((m (syntax-rules () ((_) 1)))) (m 1))", "(let ((... 1)) (let-syntax ((m (syntax-rules () ((_ x ...) 1)))) (m 2 3 4)))",
		rules("() ((_ x ...) (x))") + "(m 2)", rules("() ((_ x ...) x)") + "(m)", rules("() ((_ x) (x ...))") + "(m 2)", rules("() ((_) (y ...))") + "(m)", rules("() ((_) ...)") + "(m)", rules("() ((_) (...))") + "(m)", rules("() ((_) (... 1 2))") + "(m)", rules("() ((_) (1 . ...))") + "(m)", rules("() ((_ (x ...) y ...) ((x y) ...))") + "(m (1) 2 3)", rules("() ((_ (x ...)) (x ... ...))") + "(m (1))", rules("(a) ((_ a ...) (a ...))") + "(m a)", rules("(...) ((_ ...) '(1 ...))") + "(m ...)",
	}
}

func TestNoMacros(t *testing.T) {
	for _, s := range noMacroRows() {
		fails(t, s, api.ErrForm)
	}
}

func TestNoPatterns(t *testing.T) {
	for _, s := range noPatternRows() {
		fails(t, s, api.ErrMatch)
	}
}

func TestNoUses(t *testing.T) {
	for _, s := range noUseRows() {
		fails(t, s, api.ErrMatch)
	}
}

// A list with a Rest is no use of a macro, and symbols that mean one are no expressions.
func TestNoExpressions(t *testing.T) {
	fails(t, rules("() ((_ . x) 1)")+"(m . 1)", api.ErrForm)
	fails(t, rules("() ((_ . x) 1)")+"m", api.ErrForm)
	fails(t, rules("() ((_ . x) 1)")+"(f m)", api.ErrForm)
	fails(t, rules("() ((_ . x) 1)")+"(set! m 1)", api.ErrName)
	fails(t, rules("() ((_ . x) 1)")+"(define m 1)", api.ErrName)
	fails(t, rules("() ((_ . x) 1)")+"(define (m) 1)", api.ErrName)
	fails(t, "(let-syntax ((m (syntax-rules () ((_) 1)))) m)", api.ErrForm)
	fails(t, "(let-syntax ((m (syntax-rules () ((_) 1)))) (set! m 2))", api.ErrName)
}

// Data that are not read may stand in patterns and templates.
func TestOddRules(t *testing.T) {
	void, cond := api.Datum{Kind: api.Void}, condition(symbol("x"), symbol("..."))
	define := func(pattern, template api.Datum) api.Datum {
		return list(symbol("define-syntax"), symbol("m"), list(symbol("syntax-rules"), list(), list(pattern, template)))
	}
	quoted := func(d api.Datum) api.Datum { return list(symbol("quote"), d) }
	for _, x := range []struct {
		pattern, template, use api.Datum
		want                   string
	}{
		{list(symbol("_"), symbol("x"), void), quoted(list(symbol("x"), void)), list(symbol("m"), whole(1), void), "'(1 #<void>)"},
		{list(symbol("_"), symbol("x"), cond), quoted(list(symbol("x"), cond)), list(symbol("m"), whole(1), cond), "'(1 #<condition type x ...>)"},
		{dotted(dotted(symbol("y"), symbol("x")), symbol("_")), quoted(list(symbol("x"), symbol("y"))), list(symbol("m"), whole(1), whole(2)), "'(1 (2))"},
		{dotted(dotted(dotted(symbol("y"))), symbol("_")), quoted(dotted(dotted(dotted(symbol("y"))))), list(symbol("m"), whole(1)), "'(1)"},
	} {
		forms, at, e := expand.Program([]api.Datum{define(x.pattern, x.template), x.use})
		if got := toldAll(forms); e != api.OK || got != x.want {
			t.Errorf("%s: %s, error %d at %d", x.want, got, e, at)
		}
	}
	failsData(t, []api.Datum{define(dotted(symbol("x")), whole(1))}, api.ErrForm)
	failsData(t, []api.Datum{define(list(symbol("_"), cond), whole(1)), list(symbol("m"), condition(symbol("x"), symbol("y")))}, api.ErrMatch)
}

package expand_test

import (
	"slices"
	"strings"
	"testing"

	"tandem/api"
	"tandem/expand"
)

// checker goes through core forms, the outermost first.
type checker struct {
	t     *testing.T
	s     string
	vars  int
	bound []int
}

// P8.3: no core form has a mark, variables are named only where they are bound, and counted as they stand; each form has its parts and nothing else.
func wellFormed(t *testing.T, s string, forms []api.Core) {
	t.Helper()
	c := checker{t: t, s: s}
	for _, f := range forms {
		c.check(f, -1)
	}
}

func (c *checker) wants(ok bool, what string) {
	c.t.Helper()
	if !ok {
		c.t.Fatalf("%s: %s", c.s, what)
	}
}

// check looks at a form; loop is how many variables the loop has whose body it ends, or -1.
func (c *checker) check(f api.Core, loop int) {
	c.t.Helper()
	c.fields(f)
	vars := f.Vars
	for _, v := range vars {
		c.wants(v == c.vars, "variables are not counted as they stand")
		c.vars++
	}
	switch f.Kind {
	case api.CLocal, api.CSetLoc:
		c.wants(slices.Contains(c.bound, f.N), "a variable is named where it is not bound")
	case api.CAgain:
		c.wants(loop == len(f.Subs), "an again that ends no loop's body")
	}
	outer := c.bound
	if f.Kind == api.CRec || f.Kind == api.CLambda {
		c.bound = append(slices.Clone(outer), vars...)
	}
	for i, sub := range f.Subs {
		if i == len(f.Subs)-1 {
			c.bound = append(slices.Clone(outer), vars...)
		}
		c.check(sub, c.loopOf(f, i, loop))
	}
	c.bound = outer
}

func (c *checker) loopOf(f api.Core, i, loop int) int {
	switch {
	case f.Kind == api.CLoop && i == len(f.Subs)-1:
		return len(f.Vars)
	case f.Kind == api.CIf && i > 0, f.Kind == api.CSeq && i == len(f.Subs)-1:
		return loop
	}
	return -1
}

func (c *checker) fields(f api.Core) {
	c.t.Helper()
	has := map[int]string{
		api.CConst: "D", api.CLocal: "N", api.CGlobal: "Name", api.CPrim: "N", api.CIf: "Subs3", api.CLambda: "Vars Rest Name Subs1", api.CCall: "Subs+",
		api.CSeq: "Subs++", api.CSetLoc: "N Subs1", api.CSetGlo: "Name Subs1", api.CDefine: "Name Subs1", api.CLet: "Vars Values", api.CRec: "Vars Values", api.CLoop: "Vars Values", api.CAgain: "Subs",
	}[f.Kind]
	c.wants(has != "", "an unknown kind")
	c.wants(f.N == 0 || strings.Contains(has, "N") && !strings.HasPrefix(has, "Name"), "N")
	c.wants(f.Name == "" || strings.Contains(has, "Name"), "Name")
	c.wants(!f.Rest || strings.Contains(has, "Rest") && len(f.Vars) > 0, "Rest")
	c.wants(len(f.Vars) == 0 || strings.Contains(has, "Vars"), "Vars")
	c.wants(len(f.D) == 0 || has == "D", "D")
	n := len(f.Subs)
	switch {
	case has == "D":
		c.wants(len(f.D) == 1 && noMarks(f.D[0]) && n == 0, "a constant")
	case strings.Contains(has, "Subs++"):
		c.wants(n >= 2, "a sequence of one")
	case strings.Contains(has, "Subs+"):
		c.wants(n >= 1, "a call of nothing")
	case strings.Contains(has, "Subs3"):
		c.wants(n == 3, "an if without three parts")
	case strings.Contains(has, "Subs1"):
		c.wants(n == 1, "not one part")
	case strings.Contains(has, "Values"):
		c.wants(n == len(f.Vars)+1 && (n > 1 || f.Kind == api.CLoop), "not as many values as variables")
	case has != "Subs":
		c.wants(n == 0, "parts of what has none")
	}
}

func noMarks(d api.Datum) bool {
	return (d.Kind != api.Symbol || d.N == 0) && !slices.ContainsFunc(slices.Concat(d.Items, d.Rest), func(p api.Datum) bool { return !noMarks(p) })
}

// withoutNames are forms without the names of procedures.
func withoutNames(forms []api.Core) []api.Core {
	out := slices.Clone(forms)
	for i := range out {
		if out[i].Kind == api.CLambda {
			out[i].Name = ""
		}
		out[i].Subs = withoutNames(out[i].Subs)
	}
	return out
}

// macros that bind variables of their own, define, and take names of the user's.
const hygienic = `
(define-syntax swap (syntax-rules () ((_ a b) (let ((t a)) (set! a b) (set! b t)))))
(define-syntax my-or (syntax-rules () ((_) #f) ((_ e) e) ((_ e r ...) (let ((t e)) (if t t (my-or r ...))))))
(define-syntax while (syntax-rules () ((_ c b ...) (let loop () (when c b ... (loop))))))
(define-syntax for (syntax-rules (in from) ((_ x in l b ...) (for-each (lambda (x) b ...) l)) ((_ x from n b ...) (do ((x n (- x 1))) ((zero? x)) b ...))))
(define-syntax my-let (syntax-rules () ((_ ((x e) ...) b ...) ((lambda (x ...) b ...) e ...))))
(define-syntax my-let* (syntax-rules () ((_ () b ...) (let () b ...)) ((_ ((x e) p ...) b ...) (let ((x e)) (my-let* (p ...) b ...)))))
(define-syntax def2 (syntax-rules () ((_ x y e) (begin (define t e) (define x t) (define y (lambda () (list x t)))))))
(define-syntax my-cond (syntax-rules (else) ((_ (else e)) e) ((_ (c e) r ...) (if c e (my-cond r ...)))))
(define-syntax with-macro (syntax-rules () ((_ m x b ...) (let-syntax ((m (syntax-rules () ((_ y) (let ((t y)) (list t x)))))) b ...))))
(define-syntax kons (syntax-rules () ((_ x) (let ((list (cons x x))) (cons list list)))))
`

// bodies have the user's own names as A, B, C.
func bodies() []string {
	return []string{
		"(let ((A 1) (B 2)) (swap A B) (list A B))",
		"(let ((A #f)) (my-or #f A 3))",
		"(let ((A 1)) (while (< A 3) (set! A (+ A 1))))",
		"(lambda (A B) (for C in (list A B) (display C)) (for C from A (display (+ B C))))",
		"(my-let ((A 1) (B 2)) (my-or A B))",
		"(my-let* ((A 1) (B (+ A 1)) (C (list A B))) (swap A B) C)",
		"(lambda (A) (def2 B C A) (def2 foo bar B) (swap A B) (foo (C)))",
		"(lambda (A B) (my-cond ((my-or A #f) B) (else (kons A))))",
		"(lambda (A) (with-macro B A (let ((C 5)) (B (kons C)))))",
		"(let A ((B 1)) (if (my-or (> B 3) #f) B (A (+ B 1))))",
		"(lambda (A . B) (define C 1) (define (foo A) (swap A C) (list A C)) (foo B))",
		"(do ((A 1 (+ A 1)) (B 2)) ((my-or B A) (kons A)) (swap A B))",
		"(letrec ((A (lambda (B) (A B))) (C (lambda () (while (A 1) (C))))) (kons C))",
		"(case 1 ((1 2) (let ((A 1)) (my-or A 2))) (else (quasiquote (1 (unquote (let ((B 3)) (kons B)))))))",
		"(cond ((assq 1 (quote ((1 2)))) => (lambda (A) (kons A))) (else (let* ((A 1) (B A)) (swap A B) (quasiquote (1 (unquote A) (unquote-splicing B))))))",
	}
}

// P8.3: a program's local variables may have any names, also those of variables in macros, of special words and of primitives that the program does not use there.
func TestRenaming(t *testing.T) {
	names := [][3]string{
		{"a", "b", "c"}, {"c", "a", "b"}, {"t", "loop", "x"}, {"loop", "x", "t"}, {"x", "t", "y"}, {"e", "r", "m"}, {"in", "from", "n"}, {"quote", "quasiquote", "else"}, {"define", "begin", "let-syntax"},
		{"for-each", "syntax-rules", "..."}, {"zero?", "when", "-"}, {"_", "lambda2", "letrec*"}, {"vector", "append", "list->vector"}, {"memv", "eqv?", "unless"},
	}
	for _, body := range bodies() {
		var first []api.Core
		for _, n := range names {
			if slices.ContainsFunc(n[:], func(name string) bool { return uses(body, name) }) {
				continue
			}
			s := hygienic + strings.NewReplacer("A", n[0], "B", n[1], "C", n[2]).Replace(body)
			forms, at, e := expand.Program(all(s))
			if e != api.OK {
				t.Errorf("%s: error %d at %d", s[len(hygienic):], e, at)
				continue
			}
			wellFormed(t, s, forms)
			if first == nil {
				first = forms
			}
			if got, want := toldAll(withoutNames(forms)), toldAll(withoutNames(first)); got != want {
				t.Errorf("%s: %s, not %s", s[len(hygienic):], got, want)
			}
		}
	}
}

// uses tells whether a program has a word of its own.
func uses(program, word string) bool {
	for _, w := range strings.FieldsFunc(program, func(r rune) bool { return strings.ContainsRune("() ", r) }) {
		if w == word {
			return true
		}
	}
	return false
}

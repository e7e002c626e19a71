package ir_test

import (
	"strconv"
	"strings"
)

// sourceMaker makes sources full of what code is made fast of, and of what goes back from it.
type sourceMaker struct {
	dice
	names int
}

// program has some global procedures, and forms that call them.
func (s *sourceMaker) program() string {
	var b strings.Builder
	b.WriteString("(define n 0) (define saved #f) (define (again v) (set! n (+ n 1)) (if (and (procedure? saved) (< n 4)) (saved v) v)) ")
	for _, name := range []string{"f", "g", "h"} {
		vars := s.vars(1 + s.below(2))
		rest := ""
		if s.below(4) == 0 {
			rest = " . r"
		}
		b.WriteString("(define (" + name + " " + strings.Join(vars, " ") + rest + ") " + s.form(3+s.below(2), vars) + ") ")
	}
	for range 1 + s.below(4) {
		form := "(" + pick(&s.dice, "f", "g", "h") + " " + s.forms(1+s.below(2), 2, nil) + ")"
		if s.below(3) == 0 {
			form = s.form(3, nil)
		}
		if s.below(4) > 0 {
			form = "(display (call/cc (lambda (out) (with-exception-handler (lambda (e) (out e)) (lambda () " + form + ")))))"
		}
		b.WriteString(form + " ")
	}
	return b.String()
}

// vars are new names.
func (s *sourceMaker) vars(n int) []string {
	var all []string
	for range n {
		s.names++
		all = append(all, "v"+strconv.Itoa(s.names))
	}
	return all
}

func (s *sourceMaker) forms(n, deep int, vars []string) string {
	var all []string
	for range n {
		all = append(all, s.form(deep, vars))
	}
	return strings.Join(all, " ")
}

// form is a form in which these variables stand.
func (s *sourceMaker) form(deep int, vars []string) string {
	if deep <= 0 || s.below(8) == 0 {
		return s.simple(vars)
	}
	switch s.below(5) {
	case 0, 1:
		return s.number(deep-1, vars)
	case 2:
		return s.turning(deep-1, vars)
	case 3:
		return s.plain(deep-1, vars)
	}
	return s.control(deep-1, vars)
}

func (s *sourceMaker) simple(vars []string) string {
	if len(vars) > 0 && s.below(3) > 0 {
		return pick(&s.dice, vars...)
	}
	return pick(&s.dice, "0", "1", "2", "3", "7", "-1", "'a", "\"t\"", "#\\c", "#t", "#f", "'()", "'(1 2)", "#(4 5)", "n", "saved", "car", "+", "f", "g", "h", "unbound", "2305843009213693951", "-2305843009213693952", "2305843009213693952", "3037000500", "n", "0", "1")
}

// number is a form of numbers.
func (s *sourceMaker) number(deep int, vars []string) string {
	two := s.forms(2, deep, vars)
	switch s.below(6) {
	case 0:
		return "(" + pick(&s.dice, "+", "-", "*", "max", "=", "<", "<=") + " " + s.forms(1+s.below(4), deep, vars) + ")"
	case 1:
		return "(" + pick(&s.dice, "zero?", "odd?", "-", "abs", "number?") + " " + s.form(deep, vars) + ")"
	case 2:
		return "(if (" + pick(&s.dice, "=", "<", ">", "<=", ">=") + " " + two + ") " + s.forms(2, deep, vars) + ")"
	}
	return "(" + pick(&s.dice, "+", "-", "*", "+", "-", "*", "=", "<", ">", "<=", ">=", "quotient", "eq?") + " " + two + ")"
}

// turning is a loop.
func (s *sourceMaker) turning(deep int, vars []string) string {
	v := s.vars(3)
	inside := append(v[:2:2], vars...)
	count := strconv.Itoa(s.below(7))
	switch s.below(4) {
	case 0:
		return "(do ((" + v[0] + " 0 (+ " + v[0] + " 1))) ((" + pick(&s.dice, "=", ">=", ">") + " " + v[0] + " " + count + ") " + s.form(deep, inside) + ") " + s.form(deep, inside) + ")"
	case 1:
		return "(do ((" + v[0] + " " + count + " (- " + v[0] + " 1)) (" + v[1] + " " + s.form(deep, vars) + " " + s.form(deep, inside) + ")) ((<= " + v[0] + " 0) " + v[1] + ") " + s.forms(s.below(2), deep, inside) + ")"
	case 2:
		return "(do ((" + v[0] + " 0 (+ " + v[0] + " 1)) (" + v[1] + " 0 (if " + s.form(deep, inside) + " (+ " + v[0] + " " + v[1] + ") " + v[1] + "))) ((< " + count + " " + v[0] + ") (list " + v[0] + " " + v[1] + ")))"
	}
	return "(let " + v[2] + " ((" + v[0] + " " + count + ") (" + v[1] + " " + s.form(deep, vars) + ")) (if (<= " + v[0] + " 0) " + v[1] + " (" + v[2] + " (- " + v[0] + " 1) " + s.form(deep, inside) + ")))"
}

// plain is a form without control.
func (s *sourceMaker) plain(deep int, vars []string) string {
	one := func() string { return s.form(deep, vars) }
	v := s.vars(2)
	inside := append(v[:1:1], vars...)
	switch s.below(13) {
	case 0, 1:
		return "(if " + s.forms(3, deep, vars) + ")"
	case 2:
		return "(let ((" + v[0] + " " + one() + ")) " + s.forms(1+s.below(2), deep, inside) + ")"
	case 3:
		return "(begin " + s.forms(2, deep, vars) + ")"
	case 4:
		return "(set! " + pick(&s.dice, append(vars, "n")...) + " " + one() + ")"
	case 5:
		return "((lambda (" + v[0] + " . r) " + s.form(deep, append([]string{"r"}, inside...)) + ") " + s.forms(1+s.below(2), deep, vars) + ")"
	case 6, 7:
		return "(" + pick(&s.dice, "f", "g", "h") + " " + s.forms(1+s.below(2), deep, vars) + ")"
	case 8:
		return "(" + pick(&s.dice, "display", "write") + " " + one() + ")"
	case 9:
		return "(" + pick(&s.dice, "car", "cdr", "car", "cdr", "vector-length", "not", "pair?", "list", "vector", "symbol->string") + " " + one() + ")"
	case 10:
		return "(" + pick(&s.dice, "cons", "cons", "list", "append", "vector-ref", "equal?", "set-car!", "set-cdr!") + " " + s.forms(2, deep, vars) + ")"
	case 11:
		two := append(v, vars...)
		return "(letrec ((" + v[0] + " " + s.form(deep, two) + ") (" + v[1] + " (lambda () " + s.form(deep, two) + "))) " + s.form(deep, two) + ")"
	}
	return "(lambda (" + v[0] + ") " + s.form(deep, inside) + ")"
}

// control is a form of control primitives.
func (s *sourceMaker) control(deep int, vars []string) string {
	one := func() string { return s.form(deep, vars) }
	thunk := func() string { return "(lambda () " + one() + ")" }
	k := s.vars(1)[0]
	inside := append([]string{k}, vars...)
	switch s.below(10) {
	case 0:
		return "(call/cc (lambda (" + k + ") " + s.form(deep, inside) + "))"
	case 1:
		return "(call/cc (lambda (" + k + ") (" + k + " " + s.form(deep, inside) + ")))"
	case 2:
		return "(call/cc (lambda (" + k + ") (set! saved " + k + ") " + s.form(deep, inside) + "))"
	case 3:
		return "(again " + one() + ")"
	case 4:
		return "(dynamic-wind (lambda () (display \"<\")) " + thunk() + " (lambda () " + one() + " (display \">\")))"
	case 5, 6:
		return "(with-exception-handler (lambda (" + k + ") (display '!) " + s.form(deep, inside) + ") " + thunk() + ")"
	case 7:
		return "(raise-continuable " + one() + ")"
	case 8:
		return "(error " + s.forms(1+s.below(2), deep, vars) + ")"
	}
	return "(apply " + s.forms(2+s.below(2), deep, vars) + ")"
}

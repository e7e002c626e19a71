package base_test

import (
	"strconv"
	"strings"
)

// sourceMaker makes sources that are full of continuations, winds and handlers.
type sourceMaker struct {
	dice
	names int
}

// program has some global procedures, and forms whose conditions are told.
func (s *sourceMaker) program() string {
	var b strings.Builder
	b.WriteString("(define n 0) (define saved #f) (define kept '()) ")
	b.WriteString("(define (again v) (set! n (+ n 1)) (if (and (procedure? saved) (< n 6)) (saved v) v)) ")
	for _, name := range []string{"f", "g", "h"} {
		vars := s.vars(1 + s.below(2))
		rest := ""
		if s.below(4) == 0 {
			rest = " . r"
		}
		b.WriteString("(define (" + name + " " + strings.Join(vars, " ") + rest + ") " + s.form(3, vars) + ") ")
	}
	for range 1 + s.below(3) {
		form := s.form(5, nil)
		if s.below(4) > 0 {
			form = "(display (call/cc (lambda (out) (with-exception-handler (lambda (e) (out e)) (lambda () " + form + ")))))"
		}
		b.WriteString(form + " ")
	}
	return b.String()
}

// vars are new names.
func (s *sourceMaker) vars(n int) []string {
	var all []string
	for range n {
		s.names++
		all = append(all, "v"+strconv.Itoa(s.names))
	}
	return all
}

func (s *sourceMaker) forms(n, deep int, vars []string) string {
	var all []string
	for range n {
		all = append(all, s.form(deep, vars))
	}
	return strings.Join(all, " ")
}

// form is a form in which these variables stand.
func (s *sourceMaker) form(deep int, vars []string) string {
	if deep <= 0 || s.below(8) == 0 {
		return s.simple(vars)
	}
	if s.below(2) == 0 {
		return s.plain(deep-1, vars)
	}
	return s.control(deep-1, vars)
}

func (s *sourceMaker) simple(vars []string) string {
	if len(vars) > 0 && s.below(2) == 0 {
		return vars[s.below(len(vars))]
	}
	all := []string{"0", "1", "2", "3", "7", "'a", "'b", "\"t\"", "#t", "#f", "'()", "'(1)", "'(2 3)", "#(4 5)", "n", "saved", "car", "list", "+", "f", "g", "h", "display", "unbound-name", "4611686018427387904"}
	return all[s.below(len(all))]
}

// plain is a form without control.
func (s *sourceMaker) plain(deep int, vars []string) string {
	one := func() string { return s.form(deep, vars) }
	switch s.below(14) {
	case 0:
		return "(if " + one() + " " + one() + " " + one() + ")"
	case 1:
		new := s.vars(1)
		return "(let ((" + new[0] + " " + one() + ")) " + s.forms(1+s.below(2), deep, append(new, vars...)) + ")"
	case 2:
		return "(begin " + s.forms(2, deep, vars) + ")"
	case 3:
		if len(vars) == 0 {
			return "(set! n (+ n 1))"
		}
		return "(set! " + vars[s.below(len(vars))] + " " + one() + ")"
	case 4:
		new := s.vars(1)
		return "((lambda (" + new[0] + " . r) " + s.form(deep, append([]string{"r"}, append(new, vars...)...)) + ") " + s.forms(1+s.below(2), deep, vars) + ")"
	case 5:
		return "(" + strings.Fields("f g h")[s.below(3)] + " " + s.forms(1+s.below(2), deep, vars) + ")"
	case 6:
		return "(display " + one() + ")"
	case 7:
		return "(" + strings.Fields("car cdr vector-length length not pair? list vector procedure? condition-class symbol->string")[s.below(11)] + " " + one() + ")"
	case 8:
		return "(" + strings.Fields("+ - cons eq? = < list append vector-ref quotient equal?")[s.below(11)] + " " + s.forms(2, deep, vars) + ")"
	case 9:
		new := s.vars(2)
		return "(letrec ((" + new[0] + " " + s.form(deep, append(new, vars...)) + ") (" + new[1] + " (lambda () " + s.form(deep, append(new, vars...)) + "))) " + s.form(deep, append(new, vars...)) + ")"
	case 10:
		new := s.vars(1)
		return "(do ((" + new[0] + " 0 (+ " + new[0] + " 1))) ((= " + new[0] + " " + strconv.Itoa(s.below(4)) + ") " + one() + ") " + s.form(deep, append(new, vars...)) + ")"
	case 11:
		new := s.vars(1)
		return "(let loop ((" + new[0] + " " + strconv.Itoa(s.below(4)) + ")) (if (= " + new[0] + " 0) " + one() + " (cons " + s.form(deep, append(new, vars...)) + " (loop (- " + new[0] + " 1)))))"
	case 12:
		new := s.vars(1)
		return "(lambda (" + new[0] + ") " + s.form(deep, append(new, vars...)) + ")"
	}
	return "(" + one() + " " + s.forms(s.below(3), deep, vars) + ")"
}

// control is a form of control primitives.
func (s *sourceMaker) control(deep int, vars []string) string {
	one := func() string { return s.form(deep, vars) }
	thunk := func() string { return "(lambda () " + one() + ")" }
	k := s.vars(1)
	inside := append(k, vars...)
	switch s.below(13) {
	case 0:
		return "(call/cc (lambda (" + k[0] + ") " + s.form(deep, inside) + "))"
	case 1:
		return "(call/cc (lambda (" + k[0] + ") (" + k[0] + " " + s.form(deep, inside) + ")))"
	case 2:
		return "(call/cc (lambda (" + k[0] + ") (set! saved " + k[0] + ") " + s.form(deep, inside) + "))"
	case 3:
		return "(again " + one() + ")"
	case 4, 5:
		c := strconv.Itoa(s.below(10))
		return "(dynamic-wind (lambda () (display \"<\") (display " + c + ") " + one() + ") " + thunk() + " (lambda () " + one() + " (display " + c + ") (display \">\")))"
	case 6, 7:
		return "(with-exception-handler (lambda (" + k[0] + ") (display '!) " + s.form(deep, inside) + ") " + thunk() + ")"
	case 8:
		return "(call/cc (lambda (" + k[0] + ") (with-exception-handler " + k[0] + " (lambda () " + s.form(deep, inside) + "))))"
	case 9:
		return "(raise " + one() + ")"
	case 10:
		return "(raise-continuable " + one() + ")"
	case 11:
		return "(error " + s.forms(1+s.below(2), deep, vars) + ")"
	}
	return "(apply " + s.forms(2+s.below(2), deep, vars) + ")"
}

package prim_test

import (
	"math"
	"strings"
	"testing"

	"tandem/api"
	"tandem/prim"
)

// told is the chapter's list: names, and how many arguments they take.
const told = "+ 0 *, - 1 *, * 0 *, = 1 *, < 1 *, > 1 *, <= 1 *, >= 1 *, quotient 2 2, remainder 2 2, modulo 2 2, abs 1 1, min 1 *, max 1 *, gcd 0 *, expt 2 2, zero? 1 1, positive? 1 1, negative? 1 1, odd? 1 1, even? 1 1, number? 1 1, number->string 1 1, string->number 1 1, eq? 2 2, eqv? 2 2, equal? 2 2, not 1 1, boolean? 1 1, null? 1 1, pair? 1 1, list? 1 1, symbol? 1 1, string? 1 1, char? 1 1, vector? 1 1, procedure? 1 1, cons 2 2, car 1 1, cdr 1 1, set-car! 2 2, set-cdr! 2 2, list 0 *, length 1 1, append 0 *, reverse 1 1, list-ref 2 2, list-tail 2 2, memq 2 2, memv 2 2, member 2 2, assq 2 2, assv 2 2, assoc 2 2, vector 0 *, make-vector 1 2, vector-length 1 1, vector-ref 2 2, vector-set! 3 3, vector->list 1 1, list->vector 1 1, vector-fill! 2 2, string-length 1 1, string-ref 2 2, string-append 0 *, substring 3 3, string=? 2 2, string<? 2 2, string->list 1 1, list->string 1 1, string->symbol 1 1, symbol->string 1 1, char->integer 1 1, integer->char 1 1, char=? 2 2, char<? 2 2, write 1 1, display 1 1, newline 0 0, write-char 1 1, condition? 1 1, condition-class 1 1, condition-message 1 1, condition-irritants 1 1, void 0 *, apply 2 *, call/cc 1 1, dynamic-wind 3 3, with-exception-handler 2 2, raise 1 1, raise-continuable 1 1, error 1 *"

// listed are the primitives of the chapter's list.
func listed() []api.Prim {
	var all []api.Prim
	for part := range strings.SplitSeq(told, ", ") {
		f := strings.Fields(part)
		p := api.Prim{Name: f[0], Least: int(f[1][0] - '0'), Most: -1}
		if f[2] != "*" {
			p.Most = int(f[2][0] - '0')
		}
		all = append(all, p)
	}
	return all
}

// doable are those that are no control primitives.
func doable() []api.Prim {
	all := listed()
	return all[:len(all)-7]
}

// P12.1: numbers, names, counts; which ones are control primitives.
func TestList(t *testing.T) {
	for n, p := range listed() {
		if got := prim.Number(p.Name); got != n {
			t.Errorf("%s: number %d, not %d", p.Name, got, n)
		}
		if got, ok := prim.Get(n); !ok || got != p {
			t.Errorf("%d: %+v, %v", n, got, ok)
		}
		control := strings.Contains(" apply call/cc dynamic-wind with-exception-handler raise raise-continuable error ", " "+p.Name+" ")
		if prim.Control(n) != control {
			t.Errorf("%s: %v", p.Name, !control)
		}
	}
	if prim.Number("car") != 38 || prim.Number("+") != 0 || prim.Number("error") != 91 {
		t.Error("numbers")
	}
}

// P12.1: what is none.
func TestNone(t *testing.T) {
	for _, name := range []string{"", "nope", "ca", "car ", "Car", "call/c", "map", "\x00", strings.Repeat("car", 1000)} {
		if n := prim.Number(name); n != -1 {
			t.Errorf("%q: %d", name, n)
		}
	}
	for _, n := range []int{math.MinInt, -92, -1, 92, 93, 1 << 32, math.MaxInt} {
		if p, ok := prim.Get(n); ok || p != (api.Prim{}) {
			t.Errorf("%d: %+v", n, p)
		}
		if prim.Control(n) {
			t.Errorf("%d is a control primitive", n)
		}
	}
}

// P12.3: control primitives, with any arguments, and what is none, are not done.
func TestJump(t *testing.T) {
	s := store(t, 100)
	pair := made(t)(s.Cons(fix(1), Empty))
	was := s.Used()
	for _, n := range []int{math.MinInt, -1, 85, 86, 87, 88, 89, 90, 91, 92, math.MaxInt} {
		for _, args := range [][]uint64{nil, {pair}, {primitive(0), pair}, {3, 0, 7}, {pair, pair, pair, pair}} {
			if w, out, how := prim.Do(s, n, args...); w != 0 || len(out) > 0 || how != api.Jump {
				t.Errorf("%d %v: %d, %q, %d", n, args, w, out, how)
			}
		}
	}
	if s.Used() != was {
		t.Error("something was laid")
	}
}

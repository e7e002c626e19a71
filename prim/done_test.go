package prim_test

import (
	"testing"

	"tandem/api"
)

// P12.3: what calls come to. Arguments are data; the answer is as it is written.
func TestNumbers(t *testing.T) {
	for text, want := range map[string]string{
		"(+)": "0", "(+ 7)": "7", "(+ 1 2 3)": "6", "(+ -1 1)": "0", "(+ 2305843009213693951 1)": "2305843009213693952", "(+ 2305843009213693952 -1)": "2305843009213693951", "(+ 99999999999999999999 1)": "100000000000000000000",
		"(- 5)": "-5", "(- 0)": "0", "(- 5 1)": "4", "(- 5 1 2)": "2", "(- 5 1 2 3 4)": "-5", "(- -2305843009213693952)": "2305843009213693952", "(- 2305843009213693952)": "-2305843009213693952", "(- 1 99999999999999999999)": "-99999999999999999998",
		"(*)": "1", "(* 3)": "3", "(* 2 3 4)": "24", "(* 5 0 99999999999999999999)": "0", "(* -1 5)": "-5", "(* -2 -3)": "6", "(* 4294967296 4294967296)": "18446744073709551616", "(* 0)": "0",
		"(quotient 7 2)": "3", "(quotient -7 2)": "-3", "(quotient 7 -2)": "-3", "(quotient -7 -2)": "3", "(quotient 99999999999999999999 10)": "9999999999999999999", "(quotient 0 5)": "0",
		"(remainder 7 2)": "1", "(remainder -7 2)": "-1", "(remainder 7 -2)": "1", "(remainder -7 -2)": "-1", "(remainder 99999999999999999999 100)": "99",
		"(modulo 7 2)": "1", "(modulo -7 2)": "1", "(modulo 7 -2)": "-1", "(modulo -7 -2)": "-1", "(modulo -1 99999999999999999999)": "99999999999999999998", "(modulo 6 3)": "0",
		"(abs 3)": "3", "(abs -3)": "3", "(abs 0)": "0", "(abs -2305843009213693952)": "2305843009213693952", "(abs -99999999999999999999)": "99999999999999999999",
		"(min 3)": "3", "(min 3 1 2)": "1", "(min -1 -99999999999999999999)": "-99999999999999999999", "(max 3)": "3", "(max 3 9 2)": "9", "(max -5 -7)": "-5", "(max 1 99999999999999999999 2)": "99999999999999999999",
		"(gcd)": "0", "(gcd 0)": "0", "(gcd -4)": "4", "(gcd 12 -18)": "6", "(gcd 12 18 8)": "2", "(gcd 0 5)": "5", "(gcd 99999999999999999999 33333333333333333333)": "33333333333333333333",
		"(expt 2 100)": "1267650600228229401496703205376", "(expt 2 0)": "1", "(expt 0 0)": "1", "(expt 0 5)": "0", "(expt -2 3)": "-8", "(expt -2 4)": "16", "(expt 7 1)": "7", "(expt 1 2305843009213693951)": "1", "(expt -1 2305843009213693951)": "-1", "(expt -1 2305843009213693950)": "1", "(expt 0 2305843009213693951)": "0",
		"(number->string -12)": `"-12"`, "(number->string 0)": `"0"`, "(number->string 99999999999999999999)": `"99999999999999999999"`,
		`(string->number "+7")`: "7", `(string->number "-007")`: "-7", `(string->number "99999999999999999999")`: "99999999999999999999", `(string->number "-0")`: "0", `(string->number "")`: "#f", `(string->number "-")`: "#f", `(string->number "a")`: "#f", `(string->number "1 ")`: "#f", `(string->number "1.5")`: "#f", `(string->number "--1")`: "#f", `(string->number "#x1")`: "#f",
	} {
		wantDone(t, text, want)
	}
}

func TestComparisons(t *testing.T) {
	for text, want := range map[string]string{
		"(= 1)": "#t", "(= 1 1)": "#t", "(= 1 1 2)": "#f", "(= 1 2 1)": "#f", "(= 99999999999999999999 99999999999999999999)": "#t", "(= 99999999999999999999 -99999999999999999999)": "#f",
		"(< 1)": "#t", "(< 1 2 3)": "#t", "(< 1 3 2)": "#f", "(< 1 1)": "#f", "(< 3 1 2)": "#f", "(< 1 99999999999999999999)": "#t", "(< 1 -99999999999999999999)": "#f",
		"(> 1)": "#t", "(> 3 2 1)": "#t", "(> 3 1 2)": "#f", "(> 1 1)": "#f", "(> -1 -2)": "#t",
		"(<= 1)": "#t", "(<= 1 1 2)": "#t", "(<= 2 1)": "#f", "(<= 1 2 1)": "#f",
		"(>= 1)": "#t", "(>= 3 3 1)": "#t", "(>= 1 2)": "#f", "(>= 2 1 2)": "#f",
		"(zero? 0)": "#t", "(zero? 1)": "#f", "(zero? -1)": "#f", "(zero? 99999999999999999999)": "#f",
		"(positive? 0)": "#f", "(positive? 1)": "#t", "(positive? -1)": "#f", "(positive? 99999999999999999999)": "#t", "(positive? -99999999999999999999)": "#f",
		"(negative? 0)": "#f", "(negative? 1)": "#f", "(negative? -1)": "#t", "(negative? 99999999999999999999)": "#f", "(negative? -99999999999999999999)": "#t",
		"(odd? 0)": "#f", "(odd? 1)": "#t", "(odd? -3)": "#t", "(odd? -2)": "#f", "(odd? 99999999999999999999)": "#t", "(odd? 100000000000000000000)": "#f",
		"(even? 0)": "#t", "(even? 1)": "#f", "(even? -2)": "#t", "(even? -3)": "#f", "(even? 99999999999999999999)": "#f", "(even? 100000000000000000000)": "#t",
		"(number? 1)": "#t", "(number? 99999999999999999999)": "#t", "(number? a)": "#f", `(number? "1")`: "#f", "(number? #\\1)": "#f", "(number? ())": "#f",
	} {
		wantDone(t, text, want)
	}
}

func TestSameness(t *testing.T) {
	for text, want := range map[string]string{
		"(eq? a a)": "#t", "(eq? a b)": "#f", "(eq? 5 5)": "#t", "(eq? #\\a #\\a)": "#t", "(eq? () ())": "#t", "(eq? #f ())": "#f", `(eq? "a" "a")`: "#f", `(eq? "" "")`: "#f", "(eq? (1) (1))": "#f", "(eq? #() #())": "#f", "(eq? 99999999999999999999 99999999999999999999)": "#f", "(eq? 1 #\\x01)": "#f",
		"(eqv? a a)": "#t", "(eqv? 5 5)": "#t", "(eqv? 99999999999999999999 99999999999999999999)": "#t", "(eqv? 99999999999999999999 -99999999999999999999)": "#f", `(eqv? "a" "a")`: "#f", "(eqv? (1) (1))": "#f",
		"(equal? a a)": "#t", "(equal? a b)": "#f", `(equal? "ab" "ab")`: "#t", `(equal? "ab" "abc")`: "#f", "(equal? (1 #(2)) (1 #(2)))": "#t", "(equal? (1 #(2)) (1 #(3)))": "#f", "(equal? #(1) #(1 2))": "#f", "(equal? (1 2) (1 . 2))": "#f", "(equal? 99999999999999999999 99999999999999999999)": "#t", `(equal? a "a")`: "#f",
		"(not #f)": "#t", "(not #t)": "#f", "(not ())": "#f", "(not 0)": "#f", `(not "")`: "#f",
		"(boolean? #f)": "#t", "(boolean? #t)": "#t", "(boolean? ())": "#f", "(boolean? 0)": "#f",
		"(null? ())": "#t", "(null? #f)": "#f", "(null? (1))": "#f", "(null? #())": "#f",
		"(pair? (1 . 2))": "#t", "(pair? (1))": "#t", "(pair? ())": "#f", "(pair? #(1 2))": "#f",
		"(list? ())": "#t", "(list? (1 2))": "#t", "(list? (1 . 2))": "#f", "(list? (1 2 . 3))": "#f", "(list? 5)": "#f", "(list? #())": "#f",
		"(symbol? a)": "#t", `(symbol? "a")`: "#f", "(symbol? #\\a)": "#f",
		`(string? "")`: "#t", `(string? "abcdefghij")`: "#t", "(string? a)": "#f", "(string? 1)": "#f",
		"(char? #\\a)": "#t", "(char? 97)": "#f", `(char? "a")`: "#f",
		"(vector? #())": "#t", "(vector? #(1 2))": "#t", "(vector? (1 2))": "#f",
		"(procedure? 1)": "#f", "(procedure? car)": "#f", "(procedure? (1))": "#f", "(condition? 1)": "#f", "(condition? #(1 2 3))": "#f",
	} {
		wantDone(t, text, want)
	}
}

func TestLists(t *testing.T) {
	for text, want := range map[string]string{
		"(cons 1 2)": "(1 . 2)", "(cons 1 ())": "(1)", "(cons (1) (2))": "((1) 2)", "(car (1 2))": "1", "(car (a . b))": "a", "(cdr (1 2))": "(2)", "(cdr (1 . 2))": "2", "(cdr (1))": "()",
		"(set-car! (1) 2)": "#<void>", "(set-cdr! (1) 2)": "#<void>",
		"(list)": "()", "(list 1)": "(1)", "(list 1 (2) ())": "(1 (2) ())", "(length ())": "0", "(length (1 (2 3) 4))": "3",
		"(append)": "()", "(append 5)": "5", "(append (1 . 2))": "(1 . 2)", "(append () 5)": "5", "(append (1) 2)": "(1 . 2)", "(append (1) (2 3) 4)": "(1 2 3 . 4)", "(append (1 2) () (3) ())": "(1 2 3)", "(append () ())": "()", "(append (1) (2 . 3))": "(1 2 . 3)",
		"(reverse ())": "()", "(reverse (1))": "(1)", "(reverse (1 2 (3 4)))": "((3 4) 2 1)",
		"(list-ref (a b c) 0)": "a", "(list-ref (a b c) 2)": "c", "(list-ref (a b . c) 1)": "b", "(list-tail (a b c) 0)": "(a b c)", "(list-tail (a b c) 1)": "(b c)", "(list-tail (a b c) 3)": "()", "(list-tail (a . b) 1)": "b", "(list-tail 5 0)": "5",
		"(memq b (a b c b))": "(b c b)", "(memq x (a b))": "#f", "(memq x ())": "#f", "(memq 1 (2 1 . 5))": "(1 . 5)", `(memq "a" ("a"))`: "#f", "(memq 99999999999999999999 (99999999999999999999))": "#f",
		"(memv 1 (2 1 . 5))": "(1 . 5)", "(memv 99999999999999999999 (1 99999999999999999999))": "(99999999999999999999)", `(memv "a" ("a"))`: "#f",
		`(member "b" ("a" "b"))`: `("b")`, "(member (1) (1 (1) 2))": "((1) 2)", "(member (2) ((1)))": "#f",
		"(assq b ((a 1) (b 2) (b 3)))": "(b 2)", "(assq x ((a 1)))": "#f", "(assq x ())": "#f", "(assq a ((a . 1) . b))": "(a . 1)", "(assq a ((a) b))": "(a)",
		"(assv 5 ())": "#f", "(assv 99999999999999999999 ((99999999999999999999 . 1)))": "(99999999999999999999 . 1)", "(assq 99999999999999999999 ((99999999999999999999 . 1)))": "#f",
		"(assoc (1) (((1) . 2)))": "((1) . 2)", `(assoc "b" (("a") ("b" 1)))`: `("b" 1)`, "(assv (1) (((1) . 2)))": "#f",
	} {
		wantDone(t, text, want)
	}
}

func TestVectorsAndTexts(t *testing.T) {
	for text, want := range map[string]string{
		"(vector)": "#()", "(vector 1 (2))": "#(1 (2))", "(make-vector 0)": "#()", "(make-vector 2)": "#(0 0)", "(make-vector 2 x)": "#(x x)", "(make-vector 0 x)": "#()",
		"(vector-length #())": "0", "(vector-length #(1 2))": "2", "(vector-ref #(a b) 0)": "a", "(vector-ref #(a b) 1)": "b", "(vector-set! #(a) 0 b)": "#<void>", "(vector-fill! #(1) 2)": "#<void>", "(vector-fill! #() 2)": "#<void>",
		"(vector->list #())": "()", "(vector->list #(1 #(2)))": "(1 #(2))", "(list->vector ())": "#()", "(list->vector (1 (2)))": "#(1 (2))",
		`(string-length "")`: "0", `(string-length "abc")`: "3", `(string-length "abcdefgh")`: "8", `(string-length "abcdefghi")`: "9",
		`(string-ref "abc" 0)`: "#\\a", `(string-ref "abcdefghi" 7)`: "#\\h", `(string-ref "abcdefghi" 8)`: "#\\i", `(string-ref "\xff;" 0)`: "#\\xff",
		"(string-append)": `""`, `(string-append "a")`: `"a"`, `(string-append "a" "" "bcdefghijk")`: `"abcdefghijk"`,
		`(substring "abcd" 0 4)`: `"abcd"`, `(substring "abcd" 1 3)`: `"bc"`, `(substring "ab" 0 0)`: `""`, `(substring "ab" 2 2)`: `""`, `(substring "abcdefghijklmnopq" 7 16)`: `"hijklmnop"`,
		`(string=? "a" "a")`: "#t", `(string=? "a" "b")`: "#f", `(string=? "a" "ab")`: "#f", `(string=? "" "")`: "#t",
		`(string<? "a" "ab")`: "#t", `(string<? "" "a")`: "#t", `(string<? "a" "a")`: "#f", `(string<? "ab" "a")`: "#f", `(string<? "b" "ab")`: "#f", `(string<? "a" "\xff;")`: "#t", `(string<? "\xff;" "a")`: "#f",
		`(string->list "")`: "()", `(string->list "ab")`: "(#\\a #\\b)", "(list->string ())": `""`, "(list->string (#\\a #\\xff))": `"a\xff;"`,
		`(string->symbol "x y")`: "x y", `(string->symbol "")`: "", "(symbol->string a)": `"a"`,
		"(char->integer #\\A)": "65", "(char->integer #\\nul)": "0", "(char->integer #\\xff)": "255", "(integer->char 0)": "#\\nul", "(integer->char 255)": "#\\xff",
		"(char=? #\\a #\\a)": "#t", "(char=? #\\a #\\b)": "#f", "(char<? #\\a #\\b)": "#t", "(char<? #\\b #\\a)": "#f", "(char<? #\\a #\\a)": "#f", "(char<? #\\a #\\xff)": "#t",
		"(void)": "#<void>", "(void 1 2)": "#<void>",
	} {
		wantDone(t, text, want)
	}
}

// What goes out, and that it is Void what comes of it.
func TestOutput(t *testing.T) {
	for text, want := range map[string]string{
		`(write ("a" #\b c 1))`: `("a" #\b c 1)`, `(display ("a" #\b c 1))`: "(a b c 1)", `(write "a\n")`: `"a\n"`, `(display "a\n")`: "a\n", `(display "")`: "", `(display #\xff)`: "\xff", "(write (a . b))": "(a . b)", "(display #(1 #t))": "#(1 #t)",
		"(newline)": "\n", `(write-char #\x)`: "x", `(write-char #\xff)`: "\xff", `(write-char #\nul)`: "\x00",
	} {
		s := store(t, 1000)
		name, args := words(t, s, text)
		was := s.Used()
		if c := do(t, s, name, args...); c != (come{Void, want, api.Done}) || s.Used() != was {
			t.Errorf("%s: %+v", text, c)
		}
	}
}

// Values that no datum makes.
func TestOtherValues(t *testing.T) {
	s := store(t, 1000)
	closure := object(t, s, Closure, []uint64{fix(1)}, []uint64{3})
	bare := object(t, s, Closure, nil, []uint64{0})
	jump := object(t, s, Continuation, []uint64{Empty, Empty, Empty}, nil)
	box := object(t, s, Box, []uint64{fix(1)}, nil)
	a := made(t)(s.Intern("a"))
	message := made(t)(s.Text([]byte("m")))
	irritants := made(t)(s.List(fix(1), fix(2)))
	condition := object(t, s, Condition, []uint64{a, message, irritants}, nil)
	for _, w := range []uint64{closure, bare, jump, primitive(0), primitive(91), box, condition, False, True, Empty, Void, Undefined, a, message, irritants} {
		procedure := w == closure || w == bare || w == jump || w == primitive(0) || w == primitive(91)
		for name, want := range map[string]bool{
			"procedure?": procedure, "condition?": w == condition, "boolean?": w == False || w == True, "null?": w == Empty, "not": w == False,
			"symbol?": w == a, "string?": w == message, "pair?": w == irritants, "list?": w == irritants || w == Empty, "vector?": false, "char?": false, "number?": false,
		} {
			yes := map[bool]uint64{false: False, true: True}[want]
			if c := do(t, s, name, w); c != (come{yes, "", api.Done}) {
				t.Errorf("%s of %d: %+v", name, w, c)
			}
		}
	}
	for name, want := range map[string]uint64{"condition-class": a, "condition-message": message, "condition-irritants": irritants} {
		if c := do(t, s, name, condition); c != (come{want, "", api.Done}) {
			t.Errorf("%s: %+v", name, c)
		}
	}
	for w, want := range map[uint64]string{closure: "#<procedure>", jump: "#<void>", primitive(5): "#<procedure>", box: "#<void>", Undefined: "#<void>", condition: `#<condition a "m" 1 2>`} {
		if c := do(t, s, "display", w); c != (come{Void, want, api.Done}) {
			t.Errorf("%d: %+v", w, c)
		}
	}
	if c := do(t, s, "eq?", closure, closure); c.w != True {
		t.Error("a closure is not itself")
	}
}

package show_test

import (
	"strings"
	"testing"

	"tandem/api"
	"tandem/num"
	"tandem/show"
)

func integer(n api.Num) api.Datum   { return api.Datum{Kind: api.Int, Num: n} }
func whole(n int64) api.Datum       { return integer(num.Of(n)) }
func boolean(n int) api.Datum       { return api.Datum{Kind: api.Bool, N: n} }
func letter(n int) api.Datum        { return api.Datum{Kind: api.Char, N: n} }
func text(s string) api.Datum       { return api.Datum{Kind: api.String, Text: s} }
func symbol(s string) api.Datum     { return api.Datum{Kind: api.Symbol, Text: s} }
func list(d ...api.Datum) api.Datum { return api.Datum{Kind: api.List, Items: d} }
func vector(d ...api.Datum) api.Datum {
	return api.Datum{Kind: api.Vector, Items: d}
}
func dotted(rest api.Datum, d ...api.Datum) api.Datum {
	return api.Datum{Kind: api.List, Items: d, Rest: []api.Datum{rest}}
}
func condition(class string, d ...api.Datum) api.Datum {
	return api.Datum{Kind: api.Cond, Text: class, Items: d}
}

// wants wants a datum written and displayed so.
func wants(t *testing.T, d api.Datum, written, displayed string) {
	t.Helper()
	if got := show.Write(d); got != written {
		t.Errorf("%+v is written %q, not %q", d, got, written)
	}
	if got := show.Display(d); got != displayed {
		t.Errorf("%+v is displayed %q, not %q", d, got, displayed)
	}
}

// wantsBoth wants a datum written and displayed in one way.
func wantsBoth(t *testing.T, d api.Datum, want string) {
	t.Helper()
	wants(t, d, want, want)
}

// The chapter's own.
func TestExamples(t *testing.T) {
	wants(t, list(text("a"), letter(32)), `("a" #\space)`, "(a  )")
	wantsBoth(t, dotted(symbol("b"), symbol("a")), "(a . b)")
}

func TestNumbers(t *testing.T) {
	for n, want := range map[int64]string{0: "0", 1: "1", -1: "-1", 12: "12", -12: "-12", 1<<63 - 1: "9223372036854775807", -1 << 63: "-9223372036854775808"} {
		wantsBoth(t, whole(n), want)
	}
	wantsBoth(t, integer(api.Num{Neg: true, Mag: []uint32{0, 0, 1}}), "-18446744073709551616")
	wantsBoth(t, integer(api.Num{Neg: true, Mag: []uint32{5, 0, 0}}), "-5")
	wantsBoth(t, integer(api.Num{Neg: true, Mag: []uint32{0, 0}}), "0")
	wantsBoth(t, api.Datum{Kind: api.Int, N: 7, Text: "x", Items: []api.Datum{whole(1)}, Rest: []api.Datum{whole(2)}}, "0")
	digits := strings.Repeat("9876543210", 300)
	n, _ := num.Parse(digits)
	wantsBoth(t, integer(n), digits)
}

func TestBooleans(t *testing.T) {
	wantsBoth(t, boolean(1), "#t")
	for _, n := range []int{0, 2, -1, 257, 1 << 32, 1<<32 + 1, -1 << 63} {
		wantsBoth(t, boolean(n), "#f")
	}
}

func TestCharacters(t *testing.T) {
	wants(t, letter(32), `#\space`, " ")
	wants(t, letter(10), `#\newline`, "\n")
	wants(t, letter(9), `#\tab`, "\t")
	wants(t, letter(0), `#\nul`, "\x00")
	for n := 33; n <= 126; n++ {
		wants(t, letter(n), `#\`+string(rune(n)), string(rune(n)))
	}
	for n, want := range map[int]string{1: "x01", 8: "x08", 11: "x0b", 13: "x0d", 31: "x1f", 127: "x7f", 128: "x80", 160: "xa0", 255: "xff"} {
		wants(t, letter(n), `#\`+want, string([]byte{byte(n)}))
	}
}

// Of a number that is no byte's the names and the byte itself are not told, but its two digits.
func TestCharactersBeyondBytes(t *testing.T) {
	for n, low := range map[int]int{256: 0, 265: 9, 266: 10, 288: 32, 256 + 'A': 'A', 1<<32 + 'z': 'z', -1: 255, -256: 0, -224: 32, -191: 'A', 1<<63 - 1: 255, -1 << 63: 0, -1<<63 + 32: 32} {
		const digits = "0123456789abcdef"
		wants(t, letter(n), `#\x`+digits[low/16:low/16+1]+digits[low%16:low%16+1], string([]byte{byte(low)}))
	}
}

func TestTexts(t *testing.T) {
	wants(t, text(""), `""`, "")
	wants(t, text("a b"), `"a b"`, "a b")
	wants(t, text(`say "a\b"`), `"say \"a\\b\""`, `say "a\b"`)
	wants(t, text("a\nb\tc"), `"a\nb\tc"`, "a\nb\tc")
	wants(t, text("\x00\x01\x08\x0b\r\x1f ~\x7f\x80\xff"), `"\x00;\x01;\x08;\x0b;\x0d;\x1f; ~\x7f;\x80;\xff;"`, "\x00\x01\x08\x0b\r\x1f ~\x7f\x80\xff")
	wants(t, text("ä;'(#|"), `"\xc3;\xa4;;'(#|"`, "ä;'(#|")
	for b := 32; b <= 126; b++ {
		if b != '"' && b != '\\' {
			wants(t, text(string(rune(b))), `"`+string(rune(b))+`"`, string(rune(b)))
		}
	}
	long := strings.Repeat("x", 1<<20)
	wants(t, text(long), `"`+long+`"`, long)
}

func TestSymbols(t *testing.T) {
	for _, s := range []string{"a", "", "x y", "A-z", "|", "a\nb", "\x00\xff", "(", `"`, "12", "#t", "ä"} {
		wantsBoth(t, symbol(s), s)
		wantsBoth(t, api.Datum{Kind: api.Symbol, N: 7, Text: s}, s)
	}
}

func TestLists(t *testing.T) {
	a, b, c := symbol("a"), symbol("b"), symbol("c")
	wantsBoth(t, list(), "()")
	wantsBoth(t, list(a), "(a)")
	wantsBoth(t, list(a, b, c), "(a b c)")
	wantsBoth(t, list(list(), list(list(a), b)), "(() ((a) b))")
	wantsBoth(t, dotted(c, a, b), "(a b . c)")
	wantsBoth(t, dotted(list(b, c), a), "(a . (b c))")
	wantsBoth(t, dotted(list(), a), "(a . ())")
	wantsBoth(t, dotted(dotted(c, b), a), "(a . (b . c))")
	wantsBoth(t, list(dotted(b, a), dotted(c, b)), "((a . b) (b . c))")
	wantsBoth(t, list(symbol("quote"), a), "(quote a)")
	wantsBoth(t, list(symbol("quasiquote"), list(symbol("unquote"), a), list(symbol("unquote-splicing"), b)), "(quasiquote (unquote a) (unquote-splicing b))")
	wants(t, dotted(letter(10), text("a"), letter('b')), `("a" #\b . #\newline)`, "(a b . \n)")
	wants(t, list(text(""), text("")), `("" "")`, "( )")
	wantsBoth(t, list(symbol(""), symbol("")), "( )")
}

// A List with a Rest and no Items is its Rest's first datum.
func TestListsOfRestAlone(t *testing.T) {
	a, b := symbol("a"), symbol("b")
	wantsBoth(t, dotted(b), "b")
	wantsBoth(t, dotted(list()), "()")
	wantsBoth(t, dotted(list(a, b)), "(a b)")
	wantsBoth(t, dotted(dotted(dotted(b))), "b")
	wantsBoth(t, dotted(dotted(b), a), "(a . b)")
	wantsBoth(t, list(a, dotted(b), a), "(a b a)")
	wants(t, vector(dotted(text("x"))), `#("x")`, "#(x)")
	wants(t, dotted(letter(32)), `#\space`, " ")
}

// Of a Rest the first datum is told, of what is no list none.
func TestRestBeyondTheFirst(t *testing.T) {
	a, b, c := symbol("a"), symbol("b"), symbol("c")
	wantsBoth(t, api.Datum{Kind: api.List, Items: []api.Datum{a}, Rest: []api.Datum{b, c}}, "(a . b)")
	wantsBoth(t, api.Datum{Kind: api.List, Rest: []api.Datum{b, c}}, "b")
	wantsBoth(t, api.Datum{Kind: api.Vector, Items: []api.Datum{a}, Rest: []api.Datum{b}}, "#(a)")
	wantsBoth(t, api.Datum{Kind: api.Vector, Rest: []api.Datum{b}}, "#()")
	wantsBoth(t, api.Datum{Kind: api.Cond, Text: "x", Items: []api.Datum{a}, Rest: []api.Datum{b}}, "#<condition x a>")
	wantsBoth(t, api.Datum{Kind: api.Cond, Text: "x", Rest: []api.Datum{b}}, "#<condition x>")
}

func TestVectors(t *testing.T) {
	wantsBoth(t, vector(), "#()")
	wantsBoth(t, vector(whole(1), vector(), list(whole(2))), "#(1 #() (2))")
	wants(t, vector(text("a"), list(letter('b'), vector(text("c")))), `#("a" (#\b #("c")))`, "#(a (b #(c)))")
	wantsBoth(t, dotted(vector(whole(2)), whole(1)), "(1 . #(2))")
}

func TestWhatHasNoText(t *testing.T) {
	wantsBoth(t, api.Datum{Kind: api.Void}, "#<void>")
	wantsBoth(t, api.Datum{Kind: api.Void, N: 3, Text: "a", Items: []api.Datum{whole(1)}}, "#<void>")
	wantsBoth(t, api.Datum{Kind: api.Proc}, "#<procedure>")
	wantsBoth(t, api.Datum{Kind: api.Proc, N: 3, Text: "f", Items: []api.Datum{whole(1)}}, "#<procedure>")
	for _, kind := range []int{0, -1, 11, 99, 257, 1<<63 - 1, -1 << 63, 1<<32 + api.Int} {
		wantsBoth(t, api.Datum{Kind: kind, N: 1, Text: "q", Items: []api.Datum{whole(1)}, Rest: []api.Datum{whole(2)}}, "#<void>")
	}
	wantsBoth(t, list(api.Datum{Kind: api.Void}, api.Datum{Kind: api.Proc}, api.Datum{}), "(#<void> #<procedure> #<void>)")
}

// What is in a condition is written, also when it is displayed, as deep as it goes; what stands behind it is displayed again.
func TestConditions(t *testing.T) {
	wantsBoth(t, condition("type", text("car"), whole(5)), `#<condition type "car" 5>`)
	wantsBoth(t, condition("x"), "#<condition x>")
	wantsBoth(t, condition(""), "#<condition >")
	wantsBoth(t, condition("", symbol("")), "#<condition  >")
	wantsBoth(t, condition(`a "b" c`, boolean(0)), `#<condition a "b" c #f>`)
	wantsBoth(t, condition("user", list(text("a"), vector(letter(32), dotted(text("b"), letter('c'))))), `#<condition user ("a" #(#\space (#\c . "b")))>`)
	wantsBoth(t, condition("a", condition("b", text("c")), text("d")), `#<condition a #<condition b "c"> "d">`)
	wants(t, list(text("a"), condition("b", text("c")), text("d")), `("a" #<condition b "c"> "d")`, `(a #<condition b "c"> d)`)
	wants(t, vector(condition("b", list(text("c"))), letter('d')), `#(#<condition b ("c")> #\d)`, `#(#<condition b ("c")> d)`)
	wants(t, dotted(condition("b", letter('c')), text("a")), `("a" . #<condition b #\c>)`, `(a . #<condition b #\c>)`)
	wantsBoth(t, dotted(condition("b", letter('c'))), `#<condition b #\c>`)
}

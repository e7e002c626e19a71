package read_test

import (
	"strings"
	"testing"

	"tandem/api"
	"tandem/read"
)

func TestTexts(t *testing.T) {
	wantAll(t, `""`, text(""))
	wantAll(t, `"a" "b""c"`, text("a"), text("b"), text("c"))
	wantAll(t, `"a;b" "#|" "'(" "#;"`, text("a;b"), text("#|"), text("'("), text("#;"))
	wantAll(t, `"a\n\t\"\\\x41;\x0;\xa;\xff;"`, text("a\n\t\"\\A\x00\n\xff"))
	wantAll(t, `"\\n"`, text(`\n`))
	wantAll(t, `"\x41;\x42;"1`, text("AB"), whole(1))
	long := strings.Repeat("x", api.MaxText-2)
	wantAll(t, `"`+long+`"`, text(long))
}

func TestBytesOfTexts(t *testing.T) {
	for b := range 256 {
		c := string([]byte{byte(b)})
		if c != `"` && c != `\` {
			wantAll(t, `"a`+c+`b"`, text("a"+c+"b"))
		}
		wantAll(t, `"a\x`+hexOf(b)+`;b"`, text("a"+c+"b"))
		if b < 16 {
			wantAll(t, `"\x`+hex[b:b+1]+`;"`, text(c))
		}
		switch c {
		case `"`, `\`:
			wantAll(t, `"a\`+c+`b"`, text("a"+c+"b"))
		case "n":
			wantAll(t, `"a\nb"`, text("a\nb"))
		case "t":
			wantAll(t, `"a\tb"`, text("a\tb"))
		default: // of the x too: no digit stands behind it
			wantWrong(t, `1 "a\`+c+`;"`, 4, api.ErrText)
		}
		if !strings.Contains(hex, c) {
			wantWrong(t, `"\x`+c+`;"`, 1, api.ErrText)
			if c != ";" {
				wantWrong(t, `"\x4`+c+`;"`, 1, api.ErrText)
			}
		}
		if c != ";" {
			wantWrong(t, `"\x41`+c+`;"`, 1, api.ErrText)
		}
	}
}

func TestTextsThatEnd(t *testing.T) {
	for _, s := range []string{`"`, `"a`, `"a\`, `"a\n`, `"a\"`, `"\\\`, `"\x`, `"\x4`, `"\x41`, `"\x41;`, `(a "b)`, `"a\x0`, `#;"`, `'"`, "\"a\n"} {
		wantWrong(t, s, len(s), api.ErrEnd)
	}
	wantWrong(t, `"\x411`, 1, api.ErrText)
	wantWrong(t, `"\x"`, 1, api.ErrText)
	wantWrong(t, `"\q`, 1, api.ErrText)
	wantWrong(t, `"\\\q"`, 3, api.ErrText)
}

func TestLists(t *testing.T) {
	a, b, c, d := symbol("a"), symbol("b"), symbol("c"), symbol("d")
	wantAll(t, "()", list())
	wantAll(t, "( )(\t)", list(), list())
	wantAll(t, "(a)", list(a))
	wantAll(t, "(a b (c ()) \"d\")", list(a, b, list(c, list()), text("d")))
	wantAll(t, "(a . b)", dotted(b, a))
	wantAll(t, "(a b . c)", dotted(c, a, b))
	wantAll(t, "(a . ())", list(a))
	wantAll(t, "(a . (b . (c)))", list(a, b, c))
	wantAll(t, "(a b . (c . d))", dotted(d, a, b, c))
	wantAll(t, "(a . (b . (c . #(d))))", dotted(vector(d), a, b, c))
	wantAll(t, "(a . 'b)", list(a, symbol("quote"), b))
	wantAll(t, "((a . b) . (c . d))", dotted(d, dotted(b, a), c))
	wantAll(t, "(a .(b))(a .\"b\")(a .'b)(a .;c\nb)", list(a, b), dotted(text("b"), a), list(a, symbol("quote"), b), dotted(b, a))
	wantAll(t, "((a). b)", dotted(b, list(a)))
	wantAll(t, "(a .b)(a. b)(a . .b)", list(a, symbol(".b")), list(symbol("a."), b), dotted(symbol(".b"), a))
	wantAll(t, "(a . 5)(a . -5)", dotted(whole(5), a), dotted(whole(-5), a))
}

func TestVectors(t *testing.T) {
	wantAll(t, "#()", vector())
	wantAll(t, "#(1 #(2) ())#( a\n)", vector(whole(1), vector(whole(2)), list()), vector(symbol("a")))
	wantAll(t, "(a . #())", dotted(vector(), symbol("a")))
	wantAll(t, "#((a . b))", vector(dotted(symbol("b"), symbol("a"))))
	wantWrong(t, "a#(b)", 0, api.ErrToken)
	wantWrong(t, "#(a", 3, api.ErrEnd)
	wantWrong(t, "#(", 2, api.ErrEnd)
}

func TestAbbreviations(t *testing.T) {
	a := symbol("a")
	for short, long := range map[string]string{"'": "quote", "`": "quasiquote", ",": "unquote", ",@": "unquote-splicing"} {
		wantAll(t, short+"a", list(symbol(long), a))
		wantAll(t, short+" a", list(symbol(long), a))
		wantAll(t, short+";a\n#|a|##;b a", list(symbol(long), a))
		wantAll(t, "("+short+"()a)", list(list(symbol(long), list()), a))
		wantAll(t, short+short+"a", list(symbol(long), list(symbol(long), a)))
		wantAll(t, short+"(a . a)", list(symbol(long), dotted(a, a)))
		wantWrong(t, short, len(short), api.ErrEnd)
		wantWrong(t, "("+short+")", 1+len(short), api.ErrClose)
		wantWrong(t, short+".", len(short), api.ErrDot)
		wantWrong(t, "(a "+short+" . b)", 4+len(short), api.ErrDot)
	}
	wantAll(t, "`(a ,b ,@c)", list(symbol("quasiquote"), list(a, list(symbol("unquote"), symbol("b")), list(symbol("unquote-splicing"), symbol("c")))))
	wantAll(t, ", @a", list(symbol("unquote"), symbol("@a")))
	wantAll(t, ",@@a", list(symbol("unquote-splicing"), symbol("@a")))
	wantAll(t, ",a'b", list(symbol("unquote"), a), list(symbol("quote"), symbol("b")))
	wantWrong(t, ",a,b", 1, api.ErrToken)
	wantWrong(t, "`a`b", 1, api.ErrToken)
	wantWrong(t, "(a .,b)", 3, api.ErrToken)
}

func TestBlanks(t *testing.T) {
	for _, s := range []string{"", " ", " \t\r\n", ";", "; x", "; x\n", ";\n;\n", "#||#", "#|a|#", "#|||#", "#|#|a|#|#", "#| #| |# #| |# |#", "#|\"|#", "#|;|#", "#;a", "#; a ", "#;#;a b", "#;(a . b)", "#;'a", "#;#(a)", "#;\"a\"", "#;#\\)", "#|a|##;b;c"} {
		wantAll(t, s)
		wantAll(t, s+"\na", symbol("a"))
		wantAll(t, "a "+s, symbol("a"))
		wantAll(t, "("+s+"\na "+s+"\n. "+s+"\nb "+s+"\n)", dotted(symbol("b"), symbol("a")))
	}
	wantAll(t, "a;b\rc\nd", symbol("a"), symbol("d"))
	wantAll(t, "#|a|#b #;c\n", symbol("b"))
}

func TestCommentsThatEnd(t *testing.T) {
	for _, s := range []string{"#|", "#|a", "#|a|", "#|#", "#|#|#", "#| #| |#", "#|#||#", "(a #|)", "'#|a", "#;#|a", "#;", "a #;", "#; ;a", "#;#;a", "(a . #|b", "(a . b #|)", "a #|;|# #|"} {
		wantWrong(t, s, len(s), api.ErrEnd)
	}
	wantWrong(t, "#|a|#|#", 5, api.ErrToken)
	wantWrong(t, "|#", 0, api.ErrToken)
	wantWrong(t, "a#|b|#", 0, api.ErrToken)
	wantWrong(t, "a#;b", 0, api.ErrToken)
}

// #; passes over one datum, with blanks and other #; ahead of it.
func TestPassing(t *testing.T) {
	a, b := symbol("a"), symbol("b")
	wantAll(t, "#;#;x y b", b)
	wantAll(t, "#;(#;x y)b", b)
	wantAll(t, "#;'x b", b)
	wantAll(t, "'#;x b", list(symbol("quote"), b))
	wantAll(t, "#;'#;x y b", b)
	wantAll(t, "#;x #;y b", b)
	wantAll(t, "(a #;x . #;y b #;z)", dotted(b, a))
	wantAll(t, "#;#;#;x y z b", b)
	wantAll(t, "#;#;x #;#;y z w b", b)
	wantWrong(t, "(#;)", 3, api.ErrClose)
	wantWrong(t, "(a #;#;b)", 8, api.ErrClose)
	wantWrong(t, "(a #;. b)", 5, api.ErrDot)
	wantWrong(t, "(#;a . b)", 5, api.ErrDot)
	wantWrong(t, "#;1a b", 2, api.ErrToken)
	wantWrong(t, "#;(a", 4, api.ErrEnd)
	wantWrong(t, "#;)", 2, api.ErrClose)
	wantWrong(t, "#;#\\ab", 2, api.ErrChar)
	wantWrong(t, "#;\"\\q\"", 3, api.ErrText)
}

func TestOne(t *testing.T) {
	for _, x := range []struct {
		s        string
		at, next int
		want     api.Datum
	}{
		{"a b", 0, 1, symbol("a")}, {"a b", 1, 3, symbol("b")}, {"a b", 2, 3, symbol("b")}, {"abc", 1, 3, symbol("bc")},
		{"(a) )", 0, 3, list(symbol("a"))}, {"(a) )", 1, 2, symbol("a")}, {"'a b", 0, 2, list(symbol("quote"), symbol("a"))}, {"'a b", 1, 2, symbol("a")},
		{"; x\n 5)", 0, 6, whole(5)}, {"; x\n 5)", 2, 3, symbol("x")}, {"-12", 1, 3, whole(12)}, {"a12", 2, 3, whole(2)}, {"#(a)b", 0, 4, vector(symbol("a"))}, {"#(a)b", 1, 4, list(symbol("a"))},
		{"(a . b) 1a", 0, 7, dotted(symbol("b"), symbol("a"))}, {"#\\a)", 0, 3, letter('a')}, {"\"a\"b", 0, 3, text("a")}, {"a\"", 0, 1, symbol("a")}, {"a#;", 1, 3, api.Datum{}},
		{",@a", 0, 3, list(symbol("unquote-splicing"), symbol("a"))}, {",@a", 1, 3, symbol("@a")}, {"#;a b c", 0, 5, symbol("b")}, {"#;a b c", 2, 3, symbol("a")}, {"(a . (b c)) ", 0, 11, list(symbol("a"), symbol("b"), symbol("c"))},
	} {
		if x.want.Kind == 0 {
			wantWrongOne(t, x.s, x.at, x.next, api.ErrEnd)
			continue
		}
		d, next, e := read.One(x.s, x.at)
		if e != api.OK || next != x.next || !same([]api.Datum{d}, []api.Datum{x.want}) {
			t.Errorf("One(%q, %d): %+v to %d, error %d", x.s, x.at, d, next, e)
		}
	}
	wantWrongOne(t, "(a) )", 3, 4, api.ErrClose)
	wantWrongOne(t, "(a . b)", 2, 3, api.ErrDot)
}

// What is below 0 or beyond the end is the end.
func TestOneAtTheEnd(t *testing.T) {
	for _, s := range []string{"", "a b", ")", " ", "#|"} {
		for _, at := range []int{-1 << 63, -1, len(s), len(s) + 1, 1<<63 - 1} {
			wantWrongOne(t, s, at, len(s), api.ErrEnd)
		}
	}
}

// All of it, or nothing.
func TestAll(t *testing.T) {
	wantAll(t, "a 1 \"b\" #\\c (d) #(e) #t 'f", symbol("a"), whole(1), text("b"), letter('c'), list(symbol("d")), vector(symbol("e")), boolean(1), list(symbol("quote"), symbol("f")))
	wantWrong(t, "a b )", 4, api.ErrClose)
	wantWrong(t, "a b ) 1a", 4, api.ErrClose)
	wantWrong(t, "a 1a )", 2, api.ErrToken)
	wantWrong(t, "(a) (b", 6, api.ErrEnd)
	wantWrong(t, "a . b", 2, api.ErrDot)
	wantWrong(t, ".", 0, api.ErrDot)
	many := strings.Repeat("a ", api.MaxText/2)
	data, at, e := read.All(many)
	if len(data) != api.MaxText/2 || at != 0 || e != api.OK {
		t.Fatalf("%d data, error %d at %d", len(data), e, at)
	}
}

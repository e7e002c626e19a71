package read_test

import (
	"fmt"
	"reflect"
	"strings"
	"testing"

	"tandem/api"
	"tandem/num"
	"tandem/read"
)

func whole(n int64) api.Datum       { return api.Datum{Kind: api.Int, Num: num.Of(n)} }
func boolean(n int) api.Datum       { return api.Datum{Kind: api.Bool, N: n} }
func letter(n int) api.Datum        { return api.Datum{Kind: api.Char, N: n} }
func text(s string) api.Datum       { return api.Datum{Kind: api.String, Text: s} }
func symbol(s string) api.Datum     { return api.Datum{Kind: api.Symbol, Text: s} }
func list(d ...api.Datum) api.Datum { return api.Datum{Kind: api.List, Items: d} }
func vector(d ...api.Datum) api.Datum {
	return api.Datum{Kind: api.Vector, Items: d}
}
func dotted(rest api.Datum, d ...api.Datum) api.Datum {
	return api.Datum{Kind: api.List, Items: d, Rest: []api.Datum{rest}}
}

// number is one of many digits.
func number(digits string) api.Datum {
	n, _ := num.Parse(digits)
	return api.Datum{Kind: api.Int, Num: n}
}

// bare is a datum without the difference of nil and an empty list.
func bare(d api.Datum) api.Datum {
	d.Items, d.Rest = bareAll(d.Items), bareAll(d.Rest)
	if len(d.Num.Mag) == 0 {
		d.Num.Mag = nil
	}
	return d
}

func bareAll(l []api.Datum) []api.Datum {
	var all []api.Datum
	for _, d := range l {
		all = append(all, bare(d))
	}
	return all
}

func same(a, b []api.Datum) bool { return reflect.DeepEqual(bareAll(a), bareAll(b)) }

func preview(s string) string { return s[:min(len(s), 60)] }

// told is data for a person to look at, the beginning of it.
func told(d ...api.Datum) string { return fmt.Sprintf("%.300s", fmt.Sprintf("%+v", d)) }

// wantAll wants a text's data, from All, and one by one from One.
func wantAll(t *testing.T, s string, want ...api.Datum) {
	t.Helper()
	got, at, e := read.All(s)
	if e != api.OK || at != 0 || !same(got, want) {
		t.Fatalf("All(%q): %s at %d, error %d, not %s", preview(s), told(got...), at, e, told(want...))
	}
	next := 0
	for _, w := range want {
		d, end, e := read.One(s, next)
		if e != api.OK || end <= next || end > len(s) || !reflect.DeepEqual(bare(d), bare(w)) {
			t.Fatalf("One(%q, %d): %s to %d, error %d, not %s", preview(s), next, told(d), end, e, told(w))
		}
		next = end
	}
	wantWrongOne(t, s, next, len(s), api.ErrEnd)
}

func wantWrongOne(t *testing.T, s string, from, at int, e api.Errno) {
	t.Helper()
	d, next, errno := read.One(s, from)
	if errno != e || next != at || !reflect.DeepEqual(d, api.Datum{}) {
		t.Fatalf("One(%q, %d): %s, error %d at %d, not %d at %d", preview(s), from, told(d), errno, next, e, at)
	}
}

// wantWrong wants an error and its place, from All, and from One, where the wrong one is the first.
func wantWrong(t *testing.T, s string, at int, e api.Errno) {
	t.Helper()
	l, place, errno := read.All(s)
	if errno != e || place != at || len(l) != 0 {
		t.Fatalf("All(%q): %s, error %d at %d, not %d at %d", preview(s), told(l...), errno, place, e, at)
	}
	if _, _, first := read.One(s, 0); first != api.OK {
		wantWrongOne(t, s, 0, at, e)
	}
}

func TestExamples(t *testing.T) {
	wantAll(t, "(a . (b 12)) ; x", list(symbol("a"), symbol("b"), whole(12)))
	wantAll(t, "'a", list(symbol("quote"), symbol("a")))
	wantAll(t, `#\x41 #\x`, letter(65), letter(120))
	wantAll(t, "#;a b", symbol("b"))
	wantWrong(t, ")", 0, api.ErrClose)
	wantWrong(t, "(a", 2, api.ErrEnd)
	wantWrong(t, "(. a)", 1, api.ErrDot)
}

func TestNumbers(t *testing.T) {
	for s, n := range map[string]int64{"0": 0, "-0": 0, "+0": 0, "5": 5, "+5": 5, "-5": -5, "-07": -7, "000": 0, "4294967296": 1 << 32, "-9223372036854775808": -1 << 63} {
		wantAll(t, s, whole(n))
	}
	wantAll(t, "1(2)3\"4\"5;6\n7'8", whole(1), list(whole(2)), whole(3), text("4"), whole(5), whole(7), list(symbol("quote"), whole(8)))
	for _, s := range []string{"1a", "1.", "1+", "9#", "0x1", "1,2", "1`2", "1\x00", "1\x80", "1_000", "0-1"} {
		wantWrong(t, s, 0, api.ErrToken)
		wantWrong(t, " "+s, 1, api.ErrToken)
	}
}

func TestLongNumbers(t *testing.T) {
	for _, digits := range []int{20, 2466, 2467, 9999, api.MaxText - 1} {
		s := "-" + strings.Repeat("9", digits)
		wantAll(t, s, number(s))
		if d, next, e := read.One(s, 0); e != api.OK || next != len(s) || num.Text(d.Num) != s {
			t.Fatalf("%d digits: error %d", digits, e)
		}
	}
}

func TestBooleans(t *testing.T) {
	wantAll(t, "#t #true #f #false", boolean(1), boolean(1), boolean(0), boolean(0))
	wantAll(t, "#t(#f)#true\"\"", boolean(1), list(boolean(0)), boolean(1), text(""))
	for _, s := range []string{"#", "#T", "#F", "#tr", "#tru", "#truee", "#fals", "#falsee", "#foo", "#1", "#t#f", "#t,", "##", "#'a", "#\"a\"", "#)", "# (a)", "#.", "#@", "#,a", "#`a", "#{", "#x41"} {
		wantWrong(t, s, 0, api.ErrToken)
		wantWrong(t, "(a "+s, 3, api.ErrToken)
	}
}

// Behind #\ stands any byte, a delimiter too.
func TestCharacters(t *testing.T) {
	for b := range 256 {
		c := `#\` + string([]byte{byte(b)})
		wantAll(t, c, letter(b))
		wantAll(t, c+" "+c, letter(b), letter(b))
		wantAll(t, "("+c+")", list(letter(b)))
		wantAll(t, c+"'a", letter(b), list(symbol("quote"), symbol("a")))
		wantAll(t, c+"\"\"", letter(b), text(""))
		wantAll(t, c+";"+c, letter(b))
		for _, more := range []string{"!", "\\", "#", ",a", "`", "\x80", "\x00"} {
			wantWrong(t, "a "+c+more+" b", 2, api.ErrChar)
		}
	}
	wantAll(t, `#\space #\newline #\tab #\nul #\s #\n #\t #\x #\# #\\ #\.`, letter(32), letter(10), letter(9), letter(0), letter('s'), letter('n'), letter('t'), letter('x'), letter('#'), letter('\\'), letter('.'))
	for _, s := range []string{`#\`, `#\spac`, `#\spaces`, `#\Space`, `#\SPACE`, `#\newlin`, `#\Newline`, `#\ta`, `#\tabs`, `#\nu`, `#\null`, `#\nulx`, `#\ab`, `#\(a`, `#\ a`, `#\;a`, `#\"a`, "#\\\na", `#\space,`, `#\12`, `#\#\a`, `#\xx`, `#\é`} {
		wantWrong(t, s, 0, api.ErrChar)
		wantWrong(t, "(b "+s, 3, api.ErrChar)
	}
}

const hex = "0123456789abcdef"

// hexOf are a byte's two digits.
func hexOf(n int) string { return string([]byte{hex[n>>4], hex[n&15]}) }

func TestCharactersInHex(t *testing.T) {
	for n := range 256 {
		wantAll(t, `#\x`+hexOf(n), letter(n))
		wantAll(t, `#\x`+hexOf(n)+"()", letter(n), list())
		if n < 16 {
			wantAll(t, `(#\x`+hex[n:n+1]+")", list(letter(n)))
		}
		wantWrong(t, `#\x0`+hexOf(n), 0, api.ErrChar)
	}
	for _, s := range []string{`#\x100`, `#\x001`, `#\xg`, `#\x1g`, `#\xA`, `#\xF`, `#\x0A`, `#\xaF`, `#\X41`, `#\x-1`, `#\x+1`, `#\x4.`, `#\x41,`, `#\x41#`} {
		wantWrong(t, s, 0, api.ErrChar)
	}
}

func TestSymbols(t *testing.T) {
	for _, s := range []string{"a", "Z", "abcxyzABCXYZ0189", "!$%&*+-./:<=>?@^_~", "+", "-", "+-", "...", "..", ".a", "a.", "a.b", "+a", "-a", "+5a", "-1.5", ".5", "+.", "->x", "@", "@a", "set!", "list->vector", "quote"} {
		wantAll(t, s, symbol(s))
		wantAll(t, s+" "+s, symbol(s), symbol(s))
		wantAll(t, "("+s+")"+s, list(symbol(s)), symbol(s))
	}
	wantAll(t, "a'b", symbol("a"), list(symbol("quote"), symbol("b")))
	wantAll(t, "a\"b\"c", symbol("a"), text("b"), symbol("c"))
	wantAll(t, "aB Ab", symbol("aB"), symbol("Ab"))
	long := strings.Repeat("a", api.MaxText)
	wantAll(t, long, symbol(long))
}

// Each byte within a token is a symbol's, a delimiter, or wrong.
func TestBytesOfTokens(t *testing.T) {
	const letters = "abcdefghijklmnopqrstuvwxyzABCDEFGHIJKLMNOPQRSTUVWXYZ0123456789"
	for b := range 256 {
		c := string([]byte{byte(b)})
		s := "b" + c + "b"
		switch {
		case strings.Contains(letters+"!$%&*+-./:<=>?@^_~", c):
			wantAll(t, s, symbol(s))
		case strings.Contains(" \t\n\r", c):
			wantAll(t, s, symbol("b"), symbol("b"))
		case c == "(":
			wantWrong(t, s, 3, api.ErrEnd)
		case c == ")":
			wantWrong(t, s, 1, api.ErrClose)
		case c == "\"":
			wantWrong(t, s, 3, api.ErrEnd)
		case c == ";":
			wantAll(t, s, symbol("b"))
		case c == "'":
			wantAll(t, s, symbol("b"), list(symbol("quote"), symbol("b")))
		default:
			wantWrong(t, s, 0, api.ErrToken)
			wantWrong(t, "(c "+s+")", 3, api.ErrToken)
		}
	}
}

// Bytes that no datum begins with, and digits, with which no symbol begins.
func TestBytesThatBegin(t *testing.T) {
	for b := range 256 {
		c := string([]byte{byte(b)})
		if strings.Contains("0123456789", c) {
			wantAll(t, c, whole(int64(b-'0')))
			wantWrong(t, c+"b", 0, api.ErrToken)
		}
		if strings.Contains("#[]{}|\\", c) || b > 126 || b < 32 && !strings.Contains("\t\n\r", c) {
			wantWrong(t, c, 0, api.ErrToken)
			wantWrong(t, c+"b", 0, api.ErrToken)
			wantWrong(t, "a\n"+c, 2, api.ErrToken)
		}
	}
}

package read_test

import (
	"strings"
	"testing"

	"tandem/api"
	"tandem/read"
)

func TestDots(t *testing.T) {
	for s, at := range map[string]int{
		".": 0, " . ": 1, "a . b": 2, "(. a)": 1, "(.)": 1, "( . )": 2, "(a . )": 5, "(a .)": 4, "(a . b c)": 7, "(a . b . c)": 7, "(a . . b)": 5, "(a . b .)": 7, "(a .. b . c d)": 12,
		"#(a . b)": 4, "#(. b)": 2, "#(a .)": 4, "'.": 1, "'. a": 1, "(a . b 'c)": 7, "(a . b (c))": 7, "(a . b #(c))": 7, "(a . b \"c\")": 7, "(a . b #\\c)": 7, "(a . b #;c d)": 11, "(a . #;b)": 8, "(a . b c": 7,
		// The second one begins ahead of what is wrong in it.
		"(a . b #foo)": 7, "(a . b #\\foo)": 7, "(a . b \"": 7, "(a . b (": 7, "(a . b '": 7, "(a . b 1a)": 7, "(a . b \"\\q\")": 7,
	} {
		wantWrong(t, s, at, api.ErrDot)
	}
	wantWrong(t, "(a .", 4, api.ErrEnd)
	wantWrong(t, "(a . ", 5, api.ErrEnd)
	wantWrong(t, "(a . b", 6, api.ErrEnd)
	wantWrong(t, "(a . #;)", 7, api.ErrClose)
	wantWrong(t, "(a . ')", 6, api.ErrClose)
	wantWrong(t, "(a . b #;)", 9, api.ErrClose)
	wantWrong(t, "(a . b #;1a)", 9, api.ErrToken)
	wantWrong(t, "(a . 1b)", 5, api.ErrToken)
	wantWrong(t, "(a .# b)", 3, api.ErrToken)
}

func TestCloses(t *testing.T) {
	for s, at := range map[string]int{")": 0, " )": 1, "a)": 1, "())": 2, "(a))b": 3, "')": 1, "(')": 2, "(,@)": 3, "#;)": 2, "#())": 3, ";)\n)": 3, "#|)|#)": 5, "\")\")": 3, "#\\))": 3} {
		wantWrong(t, s, at, api.ErrClose)
	}
}

func TestEnds(t *testing.T) {
	for _, s := range []string{"(", "((", "(a", "(a ", "(a (b)", "(a ; )", "(a ;)\n", "#(", "#(a", "#(a b", "'", "' ", "`", ",", ",@", "'(", "('", "(a .", "(a . ;", "(a . b ;)"} {
		wantWrong(t, s, len(s), api.ErrEnd)
	}
	for _, s := range []string{"", " ", ";", "#||#", "#;a"} {
		wantWrongOne(t, s, 0, len(s), api.ErrEnd)
	}
}

// The first error in the text's order is told, whatever stands behind it.
func TestFirstWrong(t *testing.T) {
	wantWrong(t, "(1a", 1, api.ErrToken)
	wantWrong(t, "(#\\ab \"", 1, api.ErrChar)
	wantWrong(t, "(\"\\q", 2, api.ErrText)
	wantWrong(t, "(a . b c #|", 7, api.ErrDot)
	wantWrong(t, ") 1a", 0, api.ErrClose)
	wantWrong(t, "a (') 1a", 4, api.ErrClose)
	wantWrong(t, "#\\ab,", 0, api.ErrChar)
	wantWrong(t, strings.Repeat("(", 101)+"1a", 100, api.ErrDeep)
}

func TestDeep(t *testing.T) {
	const most = api.MaxDepth
	for _, open := range []string{"(", "#(", "'", "`", ",", ",@", "(a ", "(a . ", "(#;b ", "' ", "#(a b ", "#;c '"} {
		ends := strings.Repeat(")", most*strings.Count(open, "("))
		full := strings.Repeat(open, most)
		if _, at, e := read.All(full + "a" + ends); e != api.OK {
			t.Fatalf("%q, %d times: error %d at %d", open, most, e, at)
		}
		wantWrong(t, full, len(full), api.ErrEnd)
		for _, more := range []string{"(", "#(", "'", "`", ",", ",@"} {
			wantWrong(t, full+more, len(full), api.ErrDeep)
			wantWrong(t, full+" "+more+"a)"+ends, len(full)+1, api.ErrDeep)
			wantWrong(t, full+"#;"+more+"a)"+ends, len(full)+2, api.ErrDeep)
			wantWrong(t, full[len(open):]+more+more, len(full)-len(open)+len(more), api.ErrDeep)
		}
	}
}

// #; does not count, and what is closed does not either.
func TestNotDeep(t *testing.T) {
	const most = api.MaxDepth
	full, ends := strings.Repeat("(", most-1), strings.Repeat(")", most-1)
	for _, inner := range []string{"()()#()'a `b", strings.Repeat("#;", 200) + strings.Repeat("'a ", 200), "#;() #;#;() () ()", strings.Repeat("#|", 200) + strings.Repeat("|#", 200)} {
		if _, at, e := read.All(full + inner + ends); e != api.OK {
			t.Fatalf("%q: error %d at %d", preview(inner), e, at)
		}
		if _, at, e := read.All(full + inner + ends + full + inner + ends); e != api.OK {
			t.Fatalf("%q, twice: error %d at %d", preview(inner), e, at)
		}
	}
}

// A text that is too long is not read at all.
func TestLong(t *testing.T) {
	for _, s := range []string{"a", " ", "(", ")", "1", "'", "\"", ";", ".", "#"} {
		long := strings.Repeat(s, api.MaxText+1)
		wantWrong(t, long, 0, api.ErrLong)
		for _, at := range []int{-1, 1, api.MaxText, api.MaxText + 1, api.MaxText + 2} {
			wantWrongOne(t, long, at, 0, api.ErrLong)
		}
	}
	wantAll(t, strings.Repeat(" ", api.MaxText))
	wantAll(t, strings.Repeat(" ", api.MaxText-1)+"a", symbol("a"))
	wantWrong(t, strings.Repeat(" ", api.MaxText-1)+")", api.MaxText-1, api.ErrClose)
}

package match_test

import (
	"testing"

	"tandem/api"
	"tandem/match"
)

func wantsVars(t *testing.T, pattern api.Datum, want string, literals ...api.Datum) {
	t.Helper()
	vars, e := match.Vars(pattern, literals...)
	if e != api.OK || toldVars(vars) != want {
		t.Errorf("%+v: %s, error %d, not %s", pattern, toldVars(vars), e, want)
	}
	for _, v := range vars {
		if len(v.Subs) > 0 || !isZero(v.D) {
			t.Errorf("%+v has more than a name, a mark and a depth", v)
		}
	}
}

// P7.1: the variables in their order, with the ellipses that they stand under.
func TestVariables(t *testing.T) {
	for pattern, want := range map[string]string{
		"a":                            "a~0/0",
		"_":                            "",
		"()":                           "",
		"#()":                          "",
		"5":                            "",
		`"a"`:                          "",
		"#\\a":                         "",
		"(c b a)":                      "c~0/0 b~0/0 a~0/0",
		"(_ a _ b)":                    "a~0/0 b~0/0",
		"(a b ...)":                    "a~0/0 b~0/1",
		"(a ... b)":                    "a~0/1 b~0/0",
		"(b ... . a)":                  "b~0/1 a~0/0",
		"(a (b ...) ... #(c ...) . d)": "a~0/0 b~0/2 c~0/1 d~0/0",
		"((((a ...) ...) ...) ... b)":  "a~0/4 b~0/0",
		"((#(a b ...) c) ... (d . e))": "a~0/1 b~0/2 c~0/1 d~0/0 e~0/0",
		"(((x . y) ... . z) ...)":      "x~0/2 y~0/2 z~0/1",
		"(quote a)":                    "quote~0/0 a~0/0",
		"(_ ... a)":                    "a~0/0",
		"(5 ... a)":                    "a~0/0",
		"(.. .... a)":                  "..~0/0 ....~0/0 a~0/0",
	} {
		wantsVars(t, one(pattern), want)
	}
}

// P7.1: all that is no pattern.
func TestNoPatterns(t *testing.T) {
	for _, pattern := range []string{
		"(a a)", "(a . a)", "(a (b a))", "(a #(a))", "(a ... a)", "((a ...) (b a))", "#(a a)", // twice
		"(...)", "(... a)", "(... ...)", "#(...)", "#(... a)", "(a (... ...))", "((...))", "(... a ...)", // following nothing
		"(a ... ...)", "#(a ... ...)", "(a ... ... b)", "(_ ... ...)", // following an ellipsis
		"(a ... b ...)", "(((a b ...) c) ... (d . e) ...)", "#(a ... b ...)", "(a ... b c ...)", "(a ... b ... . c)", "(1 ... 1 ...)", // two
		"(a . ...)", "(a ... . ...)", "(b (a . ...))", // a Rest
		"...", // itself
	} {
		refused(t, one(pattern))
	}
	refused(t, dotted(symbol("...")))
	refused(t, dotted(list(symbol("..."))))
	refused(t, dotted(list(symbol("a")), symbol("a")))
	refused(t, api.Datum{Kind: api.List, Rest: []api.Datum{symbol("..."), symbol("a")}})
}

// One ellipsis in each of several lists is no second one.
func TestOneEllipsisEach(t *testing.T) {
	wantsVars(t, one("((a ...) (b ...) #(c ...) d ...)"), "a~0/1 b~0/1 c~0/1 d~0/1")
	wantsVars(t, dotted(one("(b ...)"), symbol("a"), symbol("...")), "a~0/1 b~0/1")
	wantsVars(t, dotted(dotted(dotted(symbol("a")))), "a~0/0")
}

// Symbols of one text and several marks are several; with a mark `...` and `_` are variables.
func TestMarks(t *testing.T) {
	wantsVars(t, list(marked("a", 1), symbol("a"), marked("a", -2)), "a~1/0 a~0/0 a~-2/0")
	refused(t, list(marked("a", 1), symbol("b"), marked("a", 1)))
	wantsVars(t, list(marked("...", 1), marked("_", 1)), "...~1/0 _~1/0")
	wantsVars(t, list(marked("...", 1), symbol("...")), "...~1/1")
	wantsVars(t, marked("...", 7), "...~7/0")
	wantsVars(t, dotted(marked("...", 7), symbol("a"), marked("...", 8)), "a~0/0 ...~8/0 ...~7/0")
	refused(t, list(marked("_", 1), marked("_", 1)))
}

// A literal is no variable, however often it stands, nor is it the ellipsis; it is told by its mark too.
func TestLiterals(t *testing.T) {
	a, dots, any := symbol("a"), symbol("..."), symbol("_")
	wantsVars(t, one("(a b a)"), "b~0/0", a)
	wantsVars(t, one("(a b a)"), "b~0/0", symbol("c"), a, a)
	wantsVars(t, list(a, marked("a", 1)), "a~1/0", a)
	wantsVars(t, list(a, marked("a", 1)), "a~0/0", marked("a", 1))
	wantsVars(t, one("(... b ... . ...)"), "b~0/0", dots)
	wantsVars(t, dots, "", dots)
	refused(t, dots, marked("...", 1))
	wantsVars(t, one("(_ ... b)"), "b~0/0", any)
	wantsVars(t, one("(a ... b)"), "b~0/0", a)
	refused(t, one("(b b)"), a)
}

func TestWrongLiterals(t *testing.T) {
	for _, wrong := range []api.Datum{whole(5), text("a"), list(symbol("a")), list(), {}, {Kind: api.Void, Text: "a"}, {Kind: api.Proc, Text: "a"}, {Kind: 11, Text: "a"}} {
		refused(t, symbol("a"), wrong)
		refused(t, list(), symbol("b"), wrong)
		refused(t, list(), wrong, symbol("b"))
	}
}

// Data without parts in a pattern have none, whatever stands in their fields; nothing in a condition is looked at.
func TestNoParts(t *testing.T) {
	inner := []api.Datum{symbol("..."), symbol("a"), symbol("a")}
	for kind := -1; kind < 13; kind++ {
		d := api.Datum{Kind: kind, Text: "x", Items: inner, Rest: inner}
		switch kind {
		case api.List, api.Vector:
			refused(t, d)
		case api.Symbol:
			wantsVars(t, d, "x~0/0")
		default:
			wantsVars(t, d, "")
			wantsVars(t, list(d, symbol("b")), "b~0/0")
		}
	}
	wantsVars(t, api.Datum{Kind: api.Vector, Items: []api.Datum{symbol("a")}, Rest: inner}, "a~0/0")
	wantsVars(t, api.Datum{Kind: api.List, Items: []api.Datum{symbol("a")}, Rest: []api.Datum{symbol("b"), symbol("a"), symbol("...")}}, "a~0/0 b~0/0")
}

// around are the ways in which a datum can be one deeper.
func around() []func(api.Datum) api.Datum {
	return []func(api.Datum) api.Datum{
		func(d api.Datum) api.Datum { return list(d) },
		func(d api.Datum) api.Datum { return vector(whole(1), d) },
		func(d api.Datum) api.Datum { return dotted(d, whole(1)) },
		func(d api.Datum) api.Datum { return dotted(d) },
		func(d api.Datum) api.Datum { return list(d, symbol("...")) },
		func(d api.Datum) api.Datum { return condition("x", d) },
		func(d api.Datum) api.Datum { return dotted(whole(1), d) },
	}
}

// nested is a datum with so many around it.
func nested(deep int, d api.Datum, around func(api.Datum) api.Datum) api.Datum {
	for range deep {
		d = around(d)
	}
	return d
}

// P7.1: a pattern may be MaxDepth deep, and no deeper.
func TestDeepPatterns(t *testing.T) {
	for i, more := range around() {
		for _, inner := range []api.Datum{symbol("a"), whole(1), list(), vector()} {
			if _, e := match.Vars(nested(api.MaxDepth-1, inner, more)); e != api.OK {
				t.Errorf("%d: error %d", i, e)
			}
			refused(t, nested(api.MaxDepth, inner, more))
		}
	}
	vars, e := match.Vars(nested(api.MaxDepth-1, symbol("a"), around()[4]))
	if e != api.OK || toldVars(vars) != "a~0/99" {
		t.Errorf("%s, error %d", toldVars(vars), e)
	}
	// What is no part is not deep.
	deep := nested(api.MaxDepth+5, symbol("a"), around()[0])
	wantsVars(t, api.Datum{Kind: api.Void, Items: []api.Datum{deep}, Rest: []api.Datum{deep}}, "")
	wantsVars(t, api.Datum{Kind: api.Vector, Rest: []api.Datum{deep}}, "")
	wantsVars(t, api.Datum{Kind: api.List, Rest: []api.Datum{symbol("a"), deep}}, "a~0/0")
}

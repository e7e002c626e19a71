package match_test

import (
	"testing"

	"tandem/api"
	"tandem/match"
)

// P7.2: what each variable stands for.
func TestMatches(t *testing.T) {
	for _, x := range []struct{ pattern, form, want string }{
		{"a", "5", "a=5"}, {"a", "(1 . 2)", "a=(1 . 2)"}, {"a", "...", "a=..."}, {"_", "#(1)", ""}, {"_", "...", ""},
		{"()", "()", ""}, {"#()", "#()", ""}, {"(a)", "(())", "a=()"}, {"(a b)", "(b a)", "a=b b=a"}, {"(_ a _)", "(1 2 3)", "a=2"},
		{"(a ...)", "()", "a=[]"}, {"(a ...)", "(1)", "a=[a=1]"}, {"(a ...)", "(1 2 3)", "a=[a=1 a=2 a=3]"}, {"#(a ...)", "#()", "a=[]"}, {"#(a ... b)", "#(1 2)", "a=[a=1] b=2"},
		{"(a ... b c)", "(1 2)", "a=[] b=1 c=2"}, {"(a ... b c)", "(1 2 3 4)", "a=[a=1 a=2] b=3 c=4"}, {"(a b ... c)", "(1 2)", "a=1 b=[] c=2"}, {"(a b ... c)", "(1 2 3)", "a=1 b=[b=2] c=3"}, {"(a b ... c)", "(1 2 3 4)", "a=1 b=[b=2 b=3] c=4"},
		{"(_ ...)", "(1 2 3)", ""}, {"(_ ... a)", "(1 2 3)", "a=3"}, {"(1 ... a)", "(1 1 1)", "a=1"}, {"(1 ... a)", "(2)", "a=2"},
		{"(a . b)", "(1)", "a=1 b=()"}, {"(a . b)", "(1 2)", "a=1 b=(2)"}, {"(a . b)", "(1 . 2)", "a=1 b=2"}, {"(a . b)", "(1 2 . 3)", "a=1 b=(2 . 3)"}, {"(a . b)", "(1 . #(2))", "a=1 b=#(2)"},
		{"(a ... . b)", "()", "a=[] b=()"}, {"(a ... . b)", "(1 2)", "a=[a=1 a=2] b=()"}, {"(a ... . b)", "(1 2 . 3)", "a=[a=1 a=2] b=3"}, {"(a ... b . c)", "(1 2 . 3)", "a=[a=1] b=2 c=3"}, {"(a b ... c . d)", "(1 2)", "a=1 b=[] c=2 d=()"},
		{"(a . _)", "(1 2 3)", "a=1"}, {"(a . #(b))", "(1 . #(2))", "a=1 b=2"}, {"(a . 5)", "(1 . 5)", "a=1"},
		{"((a ...) ...)", "()", "a=[]"}, {"((a ...) ...)", "(() ())", "a=[a=[] a=[]]"}, {"((a ...) ...)", "((1 2) () (3))", "a=[a=[a=1 a=2] a=[] a=[a=3]]"},
		{"((a b ...) ...)", "((1) (2 3 4))", "a=[a=1 a=2] b=[b=[] b=[b=3 b=4]]"}, {"((a b ...) ...)", "()", "a=[] b=[]"}, {"((a (b c ...) ...) ...)", "((1 (2) (3 4)) (5))", "a=[a=1 a=5] b=[b=[b=2 b=3] b=[]] c=[c=[c=[] c=[c=4]] c=[]]"},
		{"((a . b) ...)", "((1) (2 3) (4 . 5))", "a=[a=1 a=2 a=4] b=[b=() b=(3) b=5]"}, {"(#(a ...) ... b)", "(#(1) #() 2)", "a=[a=[a=1] a=[]] b=2"},
		{"((a 1) ... (b 2) c)", "((x 1) (y 2) z)", "a=[a=x] b=y c=z"},
		{`("s" 5 #t #\a a)`, `("s" 5 #t #\a x)`, "a=x"}, {"(quote a)", "'b", "quote=quote a=b"},
		{"(12345678901234567890 a)", "(12345678901234567890 1)", "a=1"},
	} {
		meets(t, one(x.pattern), one(x.form), x.want)
	}
}

// P7.2: forms that do not match.
func TestPartings(t *testing.T) {
	for _, x := range []struct{ pattern, form string }{
		{"()", "(1)"}, {"()", "5"}, {"()", "#()"}, {"#()", "()"}, {"#()", "#(1)"}, {"(a)", "()"}, {"(a)", "(1 2)"}, {"(a)", "#(1)"}, {"#(a)", "(1)"}, {"#(a)", "#()"}, {"#(a)", "#(1 2)"},
		{"(a)", "(1 . 2)"}, {"(a b)", "(1 2 . 3)"}, {"(a ...)", "(1 . 2)"}, {"(a ...)", "5"}, {"(a ...)", "#(1)"}, {"#(a ...)", "(1)"}, {"(a ... . b)", "5"}, {"(a . b)", "()"}, {"(a . b)", "5"}, {"(a b . c)", "(1 . 2)"}, {"(a b . c)", "(1)"},
		{"(a ... b c)", "(1)"}, {"(a ... b c)", "()"}, {"(a b ... c)", "(1)"}, {"(a ... b . c)", "()"}, {"#(a ... b c)", "#(1)"},
		{"(1 ...)", "(1 2)"}, {"(1 ...)", "(2 1)"}, {"((a b) ...)", "((1 2) (3))"}, {"((a b) ...)", "((1 2) 3)"}, {"((a 1) ...)", "((x 1) (y 2))"},
		{"(a . 5)", "(1 . 6)"}, {"(a . 5)", "(1)"}, {"(a . 5)", "(1 5)"}, {"(a . #(b))", "(1 2)"},
		{"5", "6"}, {"5", "-5"}, {"5", `"5"`}, {"5", "#\\5"}, {"5", "a"}, {`"a"`, "a"}, {`"a"`, `"b"`}, {"#t", "#f"}, {"#f", "()"}, {"#\\a", "#\\b"}, {"(a 1)", "(1 a)"},
		{"12345678901234567890", "12345678901234567891"},
	} {
		parts(t, one(x.pattern), one(x.form))
	}
}

// A literal stands for itself: its text, and its mark.
func TestMatchesLiterals(t *testing.T) {
	a, dots, any := symbol("a"), symbol("..."), symbol("_")
	meets(t, one("(a b)"), one("(a 1)"), "b=1", a)
	meets(t, one("(a b a)"), one("(a 1 a)"), "b=1", symbol("c"), a)
	parts(t, one("(a b)"), one("(c 1)"), a)
	parts(t, one("(a b)"), one("(1 1)"), a)
	parts(t, one("(a b)"), list(text("a"), whole(1)), a)
	parts(t, a, marked("a", 3), a)
	parts(t, marked("a", 3), a, marked("a", 3))
	meets(t, marked("a", 3), marked("a", 3), "", marked("a", 3))
	meets(t, marked("a", 3), a, "a~3=a", a)
	meets(t, one("(a ...)"), one("(1 ...)"), "a=1", dots)
	parts(t, one("(a ...)"), one("(1 2)"), dots)
	meets(t, dots, dots, "", dots)
	meets(t, one("(a . ...)"), one("(1 . ...)"), "a=1", dots)
	meets(t, one("(_ ...)"), one("(_ _)"), "", any)
	parts(t, one("(_ ...)"), one("(_ 1)"), any)
	meets(t, one("(a ... b)"), one("(a a 1)"), "b=1", a)
	parts(t, one("(a ... b)"), one("(a c 1)"), a)
}

// Marks part variables, and come with what these stand for.
func TestMatchesMarks(t *testing.T) {
	meets(t, list(symbol("a"), marked("a", 1)), one("(1 2)"), "a=1 a~1=2")
	meets(t, list(marked("...", 1), marked("_", 1)), one("(1 2)"), "...~1=1 _~1=2")
	meets(t, list(marked("a", 2), symbol("...")), one("(1 2)"), "a~2=[a~2=1 a~2=2]")
	binds, ok := match.Match(one("(a ...)"), list(marked("x", 4), list(marked("y", 5))))
	if !ok || binds[0].Subs[0].D.N != 4 || binds[0].Subs[1].D.Items[0].N != 5 {
		t.Errorf("%v, %+v", ok, binds)
	}
}

func inKind(kind, n int, s string, items ...api.Datum) api.Datum {
	return api.Datum{Kind: kind, N: n, Text: s, Items: items}
}

// Which data are alike, as a pattern without variables tells it.
func TestAlike(t *testing.T) {
	big := func(neg bool, mag ...uint32) api.Datum { return integer(api.Num{Neg: neg, Mag: mag}) }
	a, b := symbol("a"), symbol("b")
	junk := func(d api.Datum) api.Datum {
		d.Num.Neg = true
		d.Text += "x"
		d.Rest = []api.Datum{a, b}
		return d
	}
	for i, x := range [][2]api.Datum{
		{big(false, 5), big(false, 5, 0, 0)}, {big(true, 5, 0), big(true, 5)}, {big(false), big(true)}, {big(true, 0), big(false, 0, 0)}, {big(true, 1, 2, 3), big(true, 1, 2, 3, 0)}, {inKind(api.Int, 1, "x", a), inKind(api.Int, 2, "y", b)},
		{inKind(api.Bool, 1, "x"), inKind(api.Bool, 1, "y", a)}, {inKind(api.Bool, 7, ""), inKind(api.Bool, 7, "")}, {inKind(api.Char, -3, "x"), inKind(api.Char, -3, "y")}, {inKind(api.Proc, 3, "x"), inKind(api.Proc, 3, "y")},
		{inKind(api.String, 1, "x", a), inKind(api.String, 2, "x", b)}, {text("\x80\x00"), text("\x80\x00")},
		{inKind(api.Cond, 1, "x", a, list(whole(1))), inKind(api.Cond, 2, "x", a, list(whole(1)))}, {condition("x", dotted(b, a)), condition("x", api.Datum{Kind: api.List, Items: []api.Datum{a}, Rest: []api.Datum{b, a}})}, {condition("x", vector(a)), condition("x", junk(vector(a)))},
		{inKind(api.Void, 1, "x", a), inKind(api.Void, 2, "y")}, {inKind(0, 1, "x", a), inKind(0, 2, "y")}, {inKind(11, 1, "x", a), inKind(11, 2, "y")}, {inKind(-1, 1, "x"), inKind(-1, 2, "y")},
	} {
		for _, y := range [][2]api.Datum{x, {x[1], x[0]}, {list(x[0]), list(x[1])}, {vector(whole(1), x[0]), vector(whole(1), x[1])}, {dotted(x[0], a), dotted(x[1], a)}, {condition("z", x[0]), condition("z", x[1])}} {
			if _, ok := match.Match(y[0], y[1], a); !ok {
				t.Errorf("%d: %+v and %+v", i, y[0], y[1])
			}
		}
	}
}

// Which data are not alike.
func TestUnlike(t *testing.T) {
	a, b := symbol("a"), symbol("b")
	for i, x := range [][2]api.Datum{
		{whole(5), whole(-5)}, {whole(5), whole(6)}, {integer(api.Num{Mag: []uint32{1, 2}}), integer(api.Num{Mag: []uint32{1}})},
		{inKind(api.Bool, 1, ""), inKind(api.Bool, 2, "")}, {inKind(api.Bool, 0, ""), inKind(api.Bool, 2, "")}, {inKind(api.Char, 1, ""), inKind(api.Char, 257, "")}, {inKind(api.Proc, 1, "x"), inKind(api.Proc, 2, "x")},
		{text("a"), text("ab")}, {text(""), text("\x00")}, {a, marked("a", 1)}, {a, b}, {a, text("a")},
		{condition("x", a), condition("y", a)}, {condition("x", a), condition("x", b)}, {condition("x", a), condition("x")}, {condition("x", a), condition("x", a, a)}, {condition("x", list(a)), condition("x", vector(a))},
		{condition("x", dotted(b, a)), condition("x", dotted(a, a))}, {condition("x", dotted(b, a)), condition("x", list(a))}, {condition("x", dotted(list(), a)), condition("x", list(a))}, {condition("x", dotted(a)), condition("x", a)}, {condition("x", dotted(a)), condition("x", list())},
		{condition("x", list(list(whole(1)))), condition("x", list(list(whole(2))))},
		{inKind(api.Void, 0, ""), inKind(0, 0, "")}, {inKind(0, 0, ""), inKind(11, 0, "")}, {inKind(11, 0, ""), inKind(-1, 0, "")}, {inKind(api.Bool, 1, ""), inKind(api.Char, 1, "")}, {inKind(api.Char, 1, ""), inKind(api.Proc, 1, "")}, {inKind(api.String, 0, "x"), inKind(api.Cond, 0, "x")},
		{list(), vector()}, {list(), inKind(api.Void, 0, "")}, {list(), inKind(api.Cond, 0, "")},
	} {
		for _, y := range [][2]api.Datum{x, {x[1], x[0]}, {list(x[0]), list(x[1])}, {vector(whole(1), x[0]), vector(whole(1), x[1])}, {dotted(x[0], a), dotted(x[1], a)}, {condition("z", x[0]), condition("z", x[1])}} {
			if _, ok := match.Match(y[0], y[1], a, b, marked("a", 1)); ok {
				t.Errorf("%d: %+v and %+v", i, y[0], y[1])
			}
		}
	}
}

// In a condition a symbol stands for itself, as all there does.
func TestConditionsStand(t *testing.T) {
	meets(t, condition("x", symbol("a"), symbol("..."), symbol("_")), condition("x", symbol("a"), symbol("..."), symbol("_")), "")
	parts(t, condition("x", symbol("a")), condition("x", whole(1)))
	parts(t, condition("x", symbol("_")), condition("x", whole(1)))
	parts(t, condition("x", symbol("_"), symbol("...")), condition("x"))
	meets(t, list(condition("x", symbol("a")), symbol("a")), list(condition("x", symbol("a")), whole(1)), "a=1")
}

// Lists with a Rest and no items, or with more than one datum in Rest.
func TestUnusualRests(t *testing.T) {
	a, b := symbol("a"), symbol("b")
	two := api.Datum{Kind: api.List, Items: []api.Datum{whole(1)}, Rest: []api.Datum{whole(2), whole(3)}}
	meets(t, dotted(a), one("(1 2)"), "a=(1 2)")
	meets(t, dotted(a), list(), "a=()")
	meets(t, dotted(a), dotted(whole(5)), "a=5")
	meets(t, dotted(a), one("(1 . 2)"), "a=(1 . 2)")
	parts(t, dotted(a), whole(5))
	parts(t, dotted(a), vector(whole(5)))
	parts(t, list(), dotted(whole(5)))
	parts(t, whole(5), dotted(whole(5)))
	parts(t, dotted(whole(5)), whole(5))
	meets(t, dotted(whole(5)), dotted(whole(5)), "")
	meets(t, dotted(dotted(a)), one("(1 2)"), "a=(1 2)")
	meets(t, dotted(dotted(a)), dotted(dotted(whole(5))), "a=5")
	parts(t, dotted(dotted(a)), dotted(whole(5)))
	meets(t, dotted(list(b), a), one("(1 2)"), "a=1 b=2")
	parts(t, dotted(list(b), a), one("(1)"))
	parts(t, list(a, b), dotted(list(whole(2)), whole(1)))
	meets(t, dotted(list(b), a), dotted(list(whole(2)), whole(1)), "a=1 b=2")
	meets(t, one("(a . b)"), dotted(list(whole(2)), whole(1)), "a=1 b=(2)")
	meets(t, one("(a . b)"), two, "a=1 b=2")
	meets(t, dotted(a), two, "a=(1 . 2)")
	parts(t, one("(a)"), two)
	meets(t, api.Datum{Kind: api.List, Items: []api.Datum{a}, Rest: []api.Datum{b, a, b}}, one("(1 . 2)"), "a=1 b=2")
	meets(t, api.Datum{Kind: api.Vector, Items: []api.Datum{a}, Rest: []api.Datum{b}}, vector(whole(1)), "a=1")
	meets(t, vector(a), api.Datum{Kind: api.Vector, Items: []api.Datum{whole(1)}, Rest: []api.Datum{whole(2)}}, "a=1")
	binds, ok := match.Match(dotted(a), two)
	if !ok || len(binds[0].D.Rest) != 1 {
		t.Errorf("%v, %+v", ok, binds)
	}
}

// A form may be deeper than a pattern.
func TestDeepForms(t *testing.T) {
	for _, more := range around() {
		form := nested(3*api.MaxDepth, whole(1), more)
		if binds, ok := match.Match(symbol("a"), form); !ok || told(binds) != told([]api.Bind{{Name: "a", D: form}}) {
			t.Errorf("%v, %s", ok, told(binds))
		}
	}
	for _, i := range []int{0, 1, 2, 3} {
		more := around()[i]
		pattern, form := nested(api.MaxDepth-1, symbol("a"), more), nested(api.MaxDepth-1, whole(7), more)
		meets(t, pattern, form, "a=7")
		meets(t, pattern, nested(api.MaxDepth-1, list(), more), "a=()")
	}
}

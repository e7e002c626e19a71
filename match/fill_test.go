package match_test

import (
	"strings"
	"testing"

	"tandem/api"
	"tandem/match"
	"tandem/show"
)

// plain is a bind of a datum.
func plain(name string, d api.Datum) api.Bind { return api.Bind{Name: name, D: d} }

// deep is a bind under one ellipsis more than its Subs.
func deep(name string, subs ...api.Bind) api.Bind {
	b := api.Bind{Name: name, Depth: 1, Subs: subs}
	if len(subs) > 0 {
		b.Depth = subs[0].Depth + 1
	}
	return b
}

// P7.3: what comes of templates.
func TestFills(t *testing.T) {
	for _, x := range []struct{ pattern, form, template, want string }{
		{"a", "5", "a", "5"}, {"a", "5", "b", "b"}, {"a", "(1 . 2)", "(a a)", "((1 . 2) (1 . 2))"}, {"a", "5", `("a" a #\a #t 12 #f)`, `("a" 5 #\a #t 12 #f)`}, {"a", "5", "()", "()"}, {"a", "5", "#()", "#()"}, {"a", "5", "#(a (a . b))", "#(5 (5 . b))"}, {"a", "5", "_", "_"}, {"a", "a", "(a b)", "(a b)"}, {"(a b)", "(b a)", "(a b)", "(b a)"},
		{"(x ...)", "(1 2)", "(x ...)", "(1 2)"}, {"(x ...)", "(1 2)", "#(x ...)", "#(1 2)"}, {"(x ...)", "(1 2)", "(0 x ... 3)", "(0 1 2 3)"}, {"(x ...)", "(1 2)", "(x ... x ...)", "(1 2 1 2)"}, {"(x ...)", "()", "(x ...)", "()"}, {"(x ...)", "()", "(1 x ... 2)", "(1 2)"}, {"(x ...)", "(1 2)", "((x x) ...)", "((1 1) (2 2))"}, {"(x ...)", "(1 2)", "((a x . b) ...)", "((a 1 . b) (a 2 . b))"},
		{"(x y ...)", "(1 2 3)", "((x y) ...)", "((1 2) (1 3))"}, {"(x y ...)", "(1)", "((x y) ...)", "()"}, {"((x y) ...)", "((1 2) (3 4))", "((x ...) (y ...))", "((1 3) (2 4))"}, {"((x y) ...)", "((1 2) (3 4))", "((y x) ...)", "((2 1) (4 3))"}, {"((x ...) (y ...))", "((1 2) (3 4))", "(#(x y) ...)", "(#(1 3) #(2 4))"},
		{"((x ...) ...)", "((1 2) () (3))", "((x ...) ...)", "((1 2) () (3))"}, {"((x ...) ...)", "((1 2) () (3))", "(x ... ...)", "(1 2 3)"}, {"((x ...) ...)", "()", "(x ... ...)", "()"}, {"((x ...) ...)", "(() ())", "(x ... ...)", "()"}, {"((x ...) ...)", "((1 2) (3))", "((x x) ... ...)", "((1 1) (2 2) (3 3))"}, {"((x ...) ...)", "((1 2) (3))", "#(x ... ... 4)", "#(1 2 3 4)"},
		{"((k x ...) ...)", "((a 1 2) (b 3))", "((k x ...) ...)", "((a 1 2) (b 3))"}, {"((k x ...) ...)", "((a 1 2) (b 3))", "((k x) ... ...)", "((a 1) (a 2) (b 3))"}, {"((k x ...) ...)", "((a 1 2) (b 3))", "(((k x) ...) ...)", "(((a 1) (a 2)) ((b 3)))"}, {"((k x ...) ...)", "((a 1 2) (b 3))", "(k ... x ... ...)", "(a b 1 2 3)"},
		{"(((x ...) ...) ...)", "(((1 2) (3)) () ((4)))", "(x ... ... ...)", "(1 2 3 4)"}, {"(((x ...) ...) ...)", "(((1 2) (3)) () ((4)))", "((x ... ...) ...)", "((1 2 3) () (4))"}, {"(((x ...) ...) ...)", "(((1 2) (3)) () ((4)))", "((x ...) ... ...)", "((1 2) (3) (4))"},
		{"(x . y)", "(1 2 . 3)", "(x . y)", "(1 2 . 3)"}, {"(x . y)", "(1 2 3)", "(x . y)", "(1 2 3)"}, {"(x . y)", "(1)", "(x . y)", "(1)"}, {"(x . y)", "(1 2)", "(y . x)", "((2) . 1)"}, {"(x . y)", "(1 . 2)", "((x . y) . y)", "((1 . 2) . 2)"}, {"(x . y)", "(1 . #(2))", "(x . y)", "(1 . #(2))"}, {"(x ...)", "(1 2)", "(a . #(x ...))", "(a . #(1 2))"},
		{"(x ...)", "()", "(x ... . b)", "b"}, {"(x ...)", "(1)", "(x ... . b)", "(1 . b)"}, {"(x ... . y)", "(1 . 2)", "((x . y) ...)", "((1 . 2))"}, {"((x ...) ...)", "(() ())", "(x ... ... . b)", "b"}, {"((x ...) ...)", "(() ())", "(x ... ... . #(b))", "#(b)"}, {"(y x ...)", "((1 2))", "(x ... . y)", "(1 2)"},
	} {
		fills(t, one(x.template), bound(x.pattern, x.form), x.want)
	}
}

// P7.3: a list of an ellipsis and one datum.
func TestEscapes(t *testing.T) {
	x := bound("(x ...)", "(1 2)")
	for template, want := range map[string]string{
		"(... ...)": "...", "(... a)": "a", "(... (a ...))": "(a ...)", "(... (... ...))": "(... ...)", "(... (... a))": "(... a)", "(... (... a b))": "(... a b)", "(... #(...))": "#(...)", "(... (a . ...))": "(a . ...)", "(... ())": "()", "(... 5)": "5",
		"((... ...) (... ...))": "(... ...)", "((... ...) x ...)": "(... 1 2)", "(x ... (... (a ...)))": "(1 2 (a ...))", "(((... ...) x) ...)": "((... 1) (... 2))", "((... x) ...)": "(1 2)", "((... (x ...)) ...)": "((1 ...) (2 ...))", "#((... ...))": "#(...)",
	} {
		fills(t, one(template), x, want)
	}
	fills(t, dotted(one("(... ...)"), symbol("a")), x, "(a . ...)")
	fills(t, dotted(one("(... (b ...))"), symbol("a")), x, "(a b ...)")
	for _, template := range []string{"(...)", "(... a b)", "(... ... a)", "(... . a)", "(... a . b)", "#(... a)", "(... x)", "(... (x ...))", "((... ...) ...)", "((... a) ...)", "(a (...))"} {
		fails(t, one(template), x, api.ErrMatch)
	}
	fails(t, dotted(list(symbol("a")), symbol("...")), x, api.ErrMatch)
}

// P7.3: what may not stand where it does.
func TestNoTemplates(t *testing.T) {
	for _, x := range []struct{ pattern, form, template string }{
		{"(x ...)", "(1)", "x"}, {"(x ...)", "(1)", "(x)"}, {"(x ...)", "()", "x"}, {"(x ...)", "()", "(x)"}, {"(x ...)", "(1)", "#(x)"}, {"(x ...)", "(1)", "(a . x)"}, {"((x ...) ...)", "((1))", "(x ...)"}, {"((x ...) ...)", "((1))", "((x) ...)"}, {"((x ...) ...)", "(())", "(x ...)"}, {"((x ...) y ...)", "((1) 2)", "((x y) ... x)"},
		{"x", "1", "(x ...)"}, {"x", "1", "(a ...)"}, {"x", "1", "(() ...)"}, {"x", "1", "(5 ...)"}, {"x", "1", "#(a ...)"}, {"x", "1", "((x a) ...)"}, {"(x ...)", "(1 2)", "(x ... ...)"}, {"(x ...)", "(1 2)", "((a ...) x ...)"}, {"(x ...)", "(1 2)", "((x ...) ...)"}, {"(x y ...)", "(1 2)", "((x ...) y ...)"}, {"((x ...) ...)", "((1))", "(x ... ... ...)"},
		{"((x ...) (y ...))", "((1) (2 3))", "((x y) ...)"}, {"((x ...) (y ...))", "(() (2 3))", "((x y) ...)"}, {"((x ...) (y ...))", "((2 3) ())", "((x y) ...)"}, {"((x ...) ... y)", "((1) 2)", "((x y) ... . ...)"}, {"((x ...) (y ...) ...)", "((1 2) (2 3) (4))", "((x (y ...)) ... (x y) ...)"}, {"((x ...) ((y ...) ...))", "((1) ((2) (3)))", "((x (y ...)) ...)"},
		{"x", "1", "..."}, {"x", "1", "(...)"}, {"x", "1", "(... a b)"}, {"x", "1", "#(...)"}, {"x", "1", "#(... a)"}, {"x", "1", "(a . ...)"}, {"(x ...)", "(1)", "(x ... . ...)"}, {"x", "1", "(a (b . ...))"}, {"x", "1", "(a #(...))"},
	} {
		fails(t, one(x.template), bound(x.pattern, x.form), api.ErrMatch)
	}
	fails(t, dotted(symbol("...")), nil, api.ErrMatch)
	fails(t, dotted(list(symbol("..."))), nil, api.ErrMatch)
}

// What is never filled is never wrong.
func TestNothingToFill(t *testing.T) {
	for _, template := range []string{"(x ... ...)", "((x a ...) ...)", "((x (...)) ...)", "((x y ...) ...)", "((x . ...) ...)", "((x y) ... ...)"} {
		fills(t, one(template), []api.Bind{deep("x"), deep("y")}, "()")
		fails(t, one(template), []api.Bind{deep("x", plain("", whole(1))), deep("y", plain("", whole(2)))}, api.ErrMatch)
	}
}

// The first bind of a name and mark counts; a symbol with another mark is another.
func TestFirstBind(t *testing.T) {
	binds := []api.Bind{{Name: "a", Mark: 1, D: whole(1)}, plain("a", whole(2)), plain("a", whole(3)), deep("a", plain("", whole(4))), {Name: "a", Mark: 1, Depth: 1}}
	fills(t, list(symbol("a"), marked("a", 1)), binds, "(2 1)")
	fails(t, one("(a ...)"), binds, api.ErrMatch)
	fails(t, list(marked("a", 1), symbol("...")), binds, api.ErrMatch)
	fills(t, one("(a ...)"), binds[3:], "(4)")
	fills(t, list(marked("a", 1), symbol("...")), binds[3:], "()")
	d, e := match.Fill(list(marked("a", 2), marked("b", -1), text("a")), binds)
	if e != api.OK || d.Items[0].N != 2 || d.Items[1].N != -1 || d.Items[0].Text != "a" || d.Items[2].Kind != api.String {
		t.Errorf("%+v, error %d", d, e)
	}
	// Just a symbol is a bind's name.
	fills(t, list(text("a"), api.Datum{Kind: api.Void, Text: "a"}), binds, `("a" #<void>)`)
}

// With a mark `...` is an ordinary symbol.
func TestMarkedEllipses(t *testing.T) {
	x := bound("(x ...)", "(1 2)")
	fills(t, marked("...", 1), x, "...")
	fills(t, list(marked("...", 1)), x, "(...)")
	fills(t, list(marked("...", 1), symbol("a")), x, "(... a)")
	fills(t, dotted(marked("...", 1), symbol("a")), x, "(a . ...)")
	fills(t, list(symbol("x"), symbol("..."), marked("...", 1)), x, "(1 2 ...)")
	fills(t, marked("...", 1), []api.Bind{{Name: "...", Mark: 1, D: whole(5)}}, "5")
	fails(t, list(marked("...", 1), symbol("...")), x, api.ErrMatch)
}

// A bind may have the name of the ellipsis: that stands for it only where it is an ordinary symbol.
func TestBindOfEllipsis(t *testing.T) {
	dots := []api.Bind{plain("...", whole(5)), deep("x", plain("", whole(1)), plain("", whole(2)))}
	for _, template := range []string{"...", "(...)", "(... a b)", "#(...)", "(a . ...)", "(a ...)", "(x ... . ...)"} {
		fails(t, one(template), dots, api.ErrMatch)
	}
	fills(t, one("(x ...)"), dots, "(1 2)")
	fills(t, one("(... ...)"), dots, "5")
	fills(t, one("(... (x ...))"), dots[:1], "(x 5)")
	fills(t, one("((... (a ...)) x ...)"), dots, "((a 5) 1 2)")
	// Where it follows a part, it is not a bind that stands in one.
	down := []api.Bind{deep("...", plain("", whole(7)), plain("", whole(8)), plain("", whole(9))), dots[1]}
	fills(t, one("(x ...)"), down, "(1 2)")
	fails(t, one("((a ...) ...)"), down, api.ErrMatch)
	fills(t, one("((... ...) ...)"), down, "(7 8 9)")
	fails(t, one("(((... ...) x) ...)"), down, api.ErrMatch)
}

// A Sub counts by its own Depth, datum and Subs; a Depth of 0 or less is none.
func TestOddBinds(t *testing.T) {
	odd := func(depth int, subs ...api.Bind) api.Bind {
		return api.Bind{Name: "q", Mark: 9, Depth: depth, D: whole(int64(depth)), Subs: subs}
	}
	named := func(b api.Bind) []api.Bind {
		b.Name, b.Mark = "x", 0
		return []api.Bind{b}
	}
	fills(t, one("x"), named(odd(-1, odd(0))), "-1")
	fills(t, one("x"), named(odd(-1<<63)), "-9223372036854775808")
	fails(t, one("(x ...)"), named(odd(-1, odd(0))), api.ErrMatch)
	fails(t, one("(x ...)"), named(odd(0, odd(0))), api.ErrMatch)
	fills(t, one("(x ...)"), named(odd(5, odd(0), odd(-7))), "(0 -7)")
	fills(t, one("(x ...)"), named(odd(1<<62)), "()")
	fails(t, one("(x ...)"), named(odd(1, odd(0), odd(1))), api.ErrMatch)
	fails(t, one("(x ... ...)"), named(odd(2, odd(1, odd(0)), odd(0))), api.ErrMatch)
	fills(t, one("(x ... ...)"), named(odd(1, odd(9, odd(0)), odd(1))), "(0)")
	fails(t, one("x"), named(odd(1)), api.ErrMatch)
	fills(t, symbol(""), []api.Bind{{D: whole(5)}}, "5")
	fills(t, marked("", 3), []api.Bind{{D: whole(5)}}, "")
	// A Sub's own name is nobody's.
	fills(t, one("((x q) ...)"), named(odd(1, odd(0))), "((0 q))")
}

// A Rest that comes to a List is joined.
func TestJoins(t *testing.T) {
	join := func(rest api.Datum) []api.Bind { return []api.Bind{plain("x", rest), deep("y")} }
	two := api.Datum{Kind: api.List, Items: []api.Datum{whole(1)}, Rest: []api.Datum{whole(2), whole(3)}}
	fills(t, one("(a . x)"), join(two), "(a 1 . 2)")
	fills(t, one("(a . x)"), join(list()), "(a)")
	fills(t, one("(a . x)"), join(dotted(whole(5))), "(a . 5)")
	fills(t, one("(y ... . x)"), join(list()), "()")
	fills(t, one("(y ... . x)"), join(whole(5)), "5")
	fills(t, dotted(symbol("x")), join(whole(5)), "5")
	fills(t, dotted(symbol("x")), join(one("(1 . 2)")), "(1 . 2)")
	fills(t, dotted(dotted(symbol("x")), symbol("a")), join(one("(1 . 2)")), "(a 1 . 2)")
	fills(t, dotted(dotted(symbol("x"), symbol("b")), symbol("a")), join(one("(1 2)")), "(a b 1 2)")
	fills(t, api.Datum{Kind: api.List, Items: []api.Datum{symbol("a")}, Rest: []api.Datum{symbol("x"), symbol("...")}}, join(whole(1)), "(a . 1)")
	fills(t, api.Datum{Kind: api.Vector, Items: []api.Datum{symbol("a")}, Rest: []api.Datum{symbol("...")}}, nil, "#(a)")
	for _, rest := range []api.Datum{two, dotted(whole(5)), list(whole(1), whole(2))} {
		d, e := match.Fill(one("(a . x)"), join(rest))
		if e != api.OK || d.Kind != api.List || len(d.Rest) > 1 || len(d.Rest) == 1 && d.Rest[0].Kind == api.List {
			t.Errorf("%+v, error %d", d, e)
		}
	}
}

// What is neither a symbol nor a List nor a Vector stands for itself, whatever is in it.
func TestStandForThemselves(t *testing.T) {
	binds := []api.Bind{plain("a", whole(5)), plain("x", whole(6))}
	fills(t, condition("x", symbol("a"), symbol("..."), one("(...)")), binds, "#<condition x a ... (...)>")
	fills(t, list(condition("x", symbol("a")), symbol("a")), binds, "(#<condition x a> 5)")
	for kind := -1; kind < 13; kind++ {
		if kind == api.Symbol || kind == api.List || kind == api.Vector {
			continue
		}
		d := api.Datum{Kind: kind, N: 1, Num: whole(7).Num, Text: "x", Items: []api.Datum{symbol("a"), symbol("...")}}
		got, e := match.Fill(list(d), binds)
		if e != api.OK || len(got.Items) != 1 || !alike(got.Items[0], d) || show.Write(got.Items[0]) != show.Write(d) {
			t.Errorf("kind %d: %+v, error %d", kind, got, e)
		}
	}
}

// P7.3: a template may be MaxDepth deep, and no deeper, whatever else is wrong; what comes of it may be deeper.
func TestDeepTemplates(t *testing.T) {
	for i, more := range around() {
		if i == 4 {
			continue
		}
		for _, inner := range []api.Datum{symbol("a"), whole(1), list(), vector()} {
			if _, e := match.Fill(nested(api.MaxDepth-1, inner, more), nil); e != api.OK {
				t.Errorf("%d: error %d", i, e)
			}
			fails(t, nested(api.MaxDepth, inner, more), nil, api.ErrDeep)
		}
	}
	long := list(make([]api.Datum, api.MaxSteps+1)...)
	fails(t, list(symbol("..."), symbol("..."), nested(api.MaxDepth-1, symbol("a"), around()[0])), nil, api.ErrDeep)
	fails(t, list(long, symbol("..."), nested(api.MaxDepth-1, symbol("a"), around()[0])), nil, api.ErrDeep)
	fails(t, dotted(nested(api.MaxDepth-1, symbol("a"), around()[0]), symbol("..."), symbol("...")), nil, api.ErrDeep)
	fails(t, nested(api.MaxDepth, symbol("a"), around()[4]), []api.Bind{deep("a")}, api.ErrDeep)
	fills(t, one("(((((a)))))"), []api.Bind{plain("a", nested(5, whole(1), around()[0]))}, "((((((((((1))))))))))")
	d := nested(3*api.MaxDepth, whole(1), around()[0])
	fills(t, nested(api.MaxDepth-1, symbol("a"), around()[0]), []api.Bind{plain("a", d)}, show.Write(nested(4*api.MaxDepth-1, whole(1), around()[0])))
	// What is no part is not deep.
	fills(t, api.Datum{Kind: api.Void, Items: []api.Datum{d}, Rest: []api.Datum{d}}, nil, "#<void>")
	fills(t, api.Datum{Kind: api.Vector, Rest: []api.Datum{d}}, nil, "#()")
	fills(t, api.Datum{Kind: api.List, Rest: []api.Datum{symbol("a"), d}}, nil, "a")
}

// Ellipses may follow each other as often as a bind is deep.
func TestManyEllipses(t *testing.T) {
	for _, n := range []int{1, 2, 10, 98} {
		b := plain("x", whole(5))
		for range n {
			b = deep("x", b, b)
			if n > 10 {
				b.Subs = b.Subs[:1]
			}
		}
		template := list(append([]api.Datum{symbol("x")}, make([]api.Datum, n)...)...)
		for i := range n {
			template.Items[i+1] = symbol("...")
		}
		want := 1 << n
		if n > 10 {
			want = 1
		}
		fills(t, template, []api.Bind{b}, "("+strings.TrimSuffix(strings.Repeat("5 ", want), " ")+")")
		template.Items = append(template.Items, symbol("..."))
		fails(t, template, []api.Bind{b}, api.ErrMatch)
	}
}

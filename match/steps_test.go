package match_test

import (
	"testing"

	"tandem/api"
	"tandem/match"
)

// row is a list of so many numbers.
func row(n int) api.Datum {
	l := list(make([]api.Datum, n)...)
	for i := range l.Items {
		l.Items[i] = whole(1)
	}
	return l
}

// many is a bind under an ellipsis that stands for so many numbers.
func many(name string, n int) api.Bind {
	b := api.Bind{Name: name, Depth: 1}
	for range n {
		b.Subs = append(b.Subs, plain(name, whole(1)))
	}
	return b
}

// atMost wants a template to be filled with the binds that have MaxSteps parts in all, and to be refused with one more.
func atMost(t *testing.T, template api.Datum, binds func(more int) []api.Bind) {
	t.Helper()
	if d, e := match.Fill(template, binds(0)); e != api.OK || d.Kind == 0 {
		t.Errorf("%+.60v: error %d", template, e)
	}
	fails(t, template, binds(1), api.ErrSteps)
	fails(t, template, binds(50000), api.ErrSteps)
}

// unusual is a condition of so many parts, with long lists in it that are none: a condition's and a vector's Rest, and a second datum in a Rest.
func unusual(n int) api.Datum {
	none := []api.Datum{row(api.MaxSteps)}
	l := dotted(whole(1), whole(1))
	l.Rest = append(l.Rest, none...)
	v := vector(whole(1))
	v.Rest = none
	d := condition("x", l, v, row(n-7))
	d.Rest = none
	return d
}

// P7.3: MaxSteps parts may come of a template, and no more: each datum counts.
func TestMostParts(t *testing.T) {
	const most = api.MaxSteps
	x := func(parts int) func(int) []api.Bind {
		return func(more int) []api.Bind { return []api.Bind{plain("x", row(parts-1+more)), deep("y")} }
	}
	xs := func(n int) func(int) []api.Bind {
		return func(more int) []api.Bind { return []api.Bind{many("x", n+more)} }
	}
	atMost(t, one("x"), x(most))
	atMost(t, one("(x)"), x(most-1))
	atMost(t, one("#(x 1)"), x(most-2))
	atMost(t, one("((a . b) x)"), x(most-4))
	atMost(t, one("((a . b) . x)"), x(most-4)) // the list that is joined counts
	atMost(t, one("(x . b)"), x(most-2))
	atMost(t, one("(a . #(x))"), x(most-3))
	atMost(t, one("(... x)"), x(most)) // what stands for another is none itself
	atMost(t, one("((... x))"), x(most-1))
	atMost(t, one("(y ... . x)"), x(most))
	atMost(t, one("(1 (y ... . x))"), x(most-2))
	atMost(t, one("(y ... 1 . x)"), x(most-2))
	atMost(t, dotted(symbol("x")), x(most))
	atMost(t, dotted(dotted(symbol("x")), symbol("a")), x(most-2))
	atMost(t, dotted(dotted(symbol("x"), symbol("b")), symbol("a")), x(most-4))
	atMost(t, one("(x ...)"), xs(most-1))
	atMost(t, one("#(x ...)"), xs(most-1))
	atMost(t, one("((x) ... 5)"), xs(most/2-1))
	atMost(t, one("(x ... . b)"), xs(most-2))
	atMost(t, one("(x ... x ...)"), xs(most/2-1))
	atMost(t, one("x"), func(more int) []api.Bind { return []api.Bind{plain("x", unusual(most+more))} })
	template := row(most - 1)
	fails(t, list(template), nil, api.ErrSteps)
	if _, e := match.Fill(template, nil); e != api.OK {
		t.Errorf("error %d", e)
	}
	template = condition("x", row(most-1))
	fails(t, template, nil, api.ErrSteps)
}

// A deep datum counts by its parts.
func TestMostDeepParts(t *testing.T) {
	for i, more := range around() {
		each := 1
		if i == 1 || i == 2 || i == 4 || i == 6 {
			each = 2
		}
		n := (api.MaxSteps - 1) / each
		if _, e := match.Fill(symbol("x"), []api.Bind{plain("x", nested(n, whole(1), more))}); e != api.OK {
			t.Errorf("%d: error %d", i, e)
		}
		fails(t, symbol("x"), []api.Bind{plain("x", nested(n+1, whole(1), more))}, api.ErrSteps)
	}
}

// P7.3: of several errors the first that is met, left to right.
func TestFirstError(t *testing.T) {
	binds := []api.Bind{plain("long", row(api.MaxSteps)), many("x", 2), many("y", 3), many("most", api.MaxSteps+1), plain("a", whole(1)), plain("half", row(api.MaxSteps/2))}
	for _, wrong := range []string{"x", "(a ...)", "(x y) ...", "(...)", "(a . ...)", "#(...)"} {
		for _, much := range []string{"long", "(long)", "most ...", "half half", "(most a) ..."} {
			fails(t, one("("+wrong+" "+much+")"), binds, api.ErrMatch)
			fails(t, one("("+much+" "+wrong+")"), binds, api.ErrSteps)
			fails(t, one("(("+much+") "+wrong+")"), binds, api.ErrSteps)
			fails(t, one("(("+wrong+") . #("+much+"))"), binds, api.ErrMatch)
			fails(t, one("#(half ("+wrong+") half)"), binds, api.ErrMatch)
		}
	}
	fails(t, one("(long . ...)"), binds, api.ErrSteps)
	fails(t, one("(half x . long)"), binds, api.ErrMatch)
	fails(t, one("((most x) ...)"), binds, api.ErrMatch)
	fails(t, one("((most (...)) ...)"), binds, api.ErrMatch)
	// A list is met ahead of what is in it.
	binds[0].D.Items = binds[0].D.Items[2:]
	for _, last := range []string{"(... a b)", "#(...)", "((a ...))", "(x)", "(... a . b)", "(x . b)"} {
		fails(t, one("(long "+last+")"), binds, api.ErrSteps)
	}
	fails(t, one("(long x)"), binds, api.ErrMatch)
}

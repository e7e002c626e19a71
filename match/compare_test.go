package match_test

import (
	"slices"
	"strings"
	"testing"

	"tandem/api"
	"tandem/match"
	"tandem/read"
	"tandem/show"
)

func sameBinds(a, b []api.Bind) bool {
	return slices.EqualFunc(a, b, func(x, y api.Bind) bool {
		return x.Name == y.Name && x.Mark == y.Mark && x.Depth == y.Depth && alike(x.D, y.D) && sameBinds(x.Subs, y.Subs)
	})
}

// comparesMatch wants what the model tells of a pattern and a form, and tells whether they match.
func comparesMatch(t *testing.T, pattern, form api.Datum, literals ...api.Datum) bool {
	t.Helper()
	vars, e := match.Vars(pattern, literals...)
	if want, wantE := modelVars(pattern, literals...); e != wantE || !sameBinds(vars, want) {
		t.Fatalf("variables of %+v: %s, error %d, not %s, error %d", pattern, toldVars(vars), e, toldVars(want), wantE)
	}
	binds, ok := match.Match(pattern, form, literals...)
	want, wantOK := modelMatch(pattern, form, literals...)
	if !wantOK {
		want = nil
	}
	if ok != wantOK || !sameBinds(binds, want) {
		t.Fatalf("%+v of %+v: %v, %s, not %v, %s", pattern, form, ok, told(binds), wantOK, told(want))
	}
	if ok && !sound(binds, vars) {
		t.Fatalf("%+v of %+v: %+v", pattern, form, binds)
	}
	return ok
}

// comparesFill wants what the model tells of a template.
func comparesFill(t *testing.T, template api.Datum, binds []api.Bind) api.Errno {
	t.Helper()
	d, e := match.Fill(template, binds)
	if want, wantE := modelFill(template, binds); e != wantE || !alike(d, want) {
		t.Fatalf("%+v with %s: %s, error %d, not %s, error %d", template, told(binds), show.Write(d), e, show.Write(want), wantE)
	}
	if e != api.OK && !isZero(d) {
		t.Fatalf("%+v beside error %d", d, e)
	}
	return e
}

// enough wants that what is compared is not all of one kind.
func enough(t *testing.T, count, all int) {
	t.Helper()
	if count < all/20 || count > all*19/20 {
		t.Errorf("%d of %d", count, all)
	}
}

// P7.1, P7.2, of patterns of all kinds, and forms that are near to them.
func TestAnyMatch(t *testing.T) {
	const all = 25000
	count := 0
	for seed := range all {
		d := dice(seed + 1)
		pattern := d.pattern(1+seed%5, names())
		literals := []api.Datum{symbol("b"), marked("a", 1), symbol("..."), symbol("_")}[:max(0, d.below(12)-7)]
		if d.below(50) == 0 {
			literals = append(literals, d.leaf())
		}
		if comparesMatch(t, pattern, d.grown(pattern), literals...) {
			count++
		}
		comparesMatch(t, pattern, d.form(4), literals...)
		comparesMatch(t, d.form(4), pattern, literals...)
		comparesMatch(t, pattern, pattern, literals...)
	}
	enough(t, count, all)
}

// P7.3, with binds of a match.
func TestAnyFill(t *testing.T) {
	const all = 25000
	count, filled := 0, 0
	for seed := range all {
		d := dice(seed + 1)
		pattern := d.pattern(1+seed%5, names())
		binds, ok := match.Match(pattern, d.grown(pattern))
		if !ok || len(binds) == 0 {
			continue
		}
		count++
		if comparesFill(t, d.template(1+seed%4, binds), binds) == api.OK {
			filled++
		}
		comparesFill(t, pattern, binds)
	}
	enough(t, filled, count)
}

// P7.3, with binds that no match makes.
func TestAnyBinds(t *testing.T) {
	const all = 25000
	filled := 0
	for seed := range all {
		d := dice(seed + 1)
		var binds []api.Bind
		for range d.below(5) {
			binds = append(binds, d.bind(d.of("a", "b", "c", "..."), d.below(4)))
		}
		if comparesFill(t, d.template(1+seed%4, binds), binds) == api.OK {
			filled++
		}
	}
	enough(t, filled, all)
}

// shortData are the data of all texts of so many of these tokens, or fewer.
func shortData(most int, tokens ...string) []api.Datum {
	var all []api.Datum
	var grow func(s string, more int)
	grow = func(s string, more int) {
		if data, _, e := read.All(s); e == api.OK && len(data) == 1 {
			all = append(all, data[0])
		}
		if more > 0 {
			for _, x := range tokens {
				if x != ")" || strings.Contains(s, "(") {
					grow(s+x+" ", more-1)
				}
			}
		}
	}
	grow("", most)
	return all
}

// All short patterns, with all short forms.
func TestShortPatterns(t *testing.T) {
	forms := shortData(4, "(", ")", "#(", ".", "1", "2")
	forms = append(forms, one("((1) (2))"), one("(1 2 1)"), one("(1 2 . 1)"), one("((1 2) ())"))
	for _, pattern := range shortData(6, "(", ")", "#(", ".", "...", "a", "b", "1") {
		for _, form := range forms {
			comparesMatch(t, pattern, form)
		}
		comparesMatch(t, pattern, one("(... 1)"), symbol("..."))
		comparesMatch(t, pattern, one("(1 1)"), symbol("a"))
	}
}

// All short templates.
func TestShortTemplates(t *testing.T) {
	var all [][]api.Bind
	for _, form := range []string{"(5 6 (7 8))", "(5)", "((5 6) 7 () (8 9))", "(5 (6) (7))"} {
		all = append(all, bound("(a ...)", form), bound("(a . b)", form))
		if binds, ok := match.Match(one("(b (a ...) ...)"), one(form)); ok {
			all = append(all, binds)
		}
	}
	all = append(all, nil, []api.Bind{deep("a"), deep("b")}, []api.Bind{deep("a", deep("a"), deep("a")), plain("b", whole(1)), plain("...", whole(2))})
	for _, template := range shortData(7, "(", ")", "#(", ".", "...", "a", "b") {
		for _, binds := range all {
			comparesFill(t, template, binds)
		}
	}
}

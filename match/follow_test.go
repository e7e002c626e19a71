package match_test

import (
	"testing"

	"tandem/api"
	"tandem/match"
	"tandem/show"
)

// remakes wants a pattern, as a template, to make a form again.
func remakes(t *testing.T, pattern, form api.Datum) {
	t.Helper()
	binds, ok := match.Match(pattern, form)
	if !ok {
		t.Fatalf("%s of %s", show.Write(pattern), show.Write(form))
	}
	if d, e := match.Fill(pattern, binds); e != api.OK || !alike(d, form) {
		t.Fatalf("%s makes %s, error %d, not %s", show.Write(pattern), show.Write(d), e, show.Write(form))
	}
}

// P7.4
func TestMakesAgain(t *testing.T) {
	for pattern, forms := range map[string][]string{
		"a":                         {"1", "()", "(1 . 2)", "#(1 2)", "..."},
		"(a)":                       {"(1)", "(())"},
		"#(a b)":                    {"#(1 2)"},
		"(a ...)":                   {"()", "(1)", "(1 2 3)", "((1 . 2) ...)"},
		"(a b ... c)":               {"(1 2)", "(1 2 3)", "(1 2 3 4)"},
		"(a . b)":                   {"(1)", "(1 2)", "(1 . 2)", "(1 2 . 3)"},
		"(a ... . b)":               {"()", "(1)", "(1 . 2)", "(1 2 . 3)"},
		"(1 a \"x\" #\\b #t)":       {"(1 2 \"x\" #\\b #t)"},
		"((a b ...) ...)":           {"()", "((1))", "((1 2) (3 4 5))"},
		"((a (b . c) ...) ... d)":   {"(1)", "((1 (2 . 3)) (4) 5)", "((1 (2) (3 4)) 5)"},
		"(#(a ...) ... . #(b ...))": {"(#(1) #() . #(2 3))", "(#(1 2) . #())"},
	} {
		for _, form := range forms {
			remakes(t, one(pattern), one(form))
		}
	}
}

// isLead tells whether a pattern is without `_`, and has a variable in each part that an ellipsis follows.
func isLead(p api.Datum) bool {
	if is(p, "_", 0) {
		return false
	}
	if p.Kind != api.List && p.Kind != api.Vector {
		return true
	}
	for i, part := range p.Items {
		if i > 0 && is(part, "...", 0) {
			if vars, e := match.Vars(p.Items[i-1]); e != api.OK || len(vars) == 0 {
				return false
			}
		} else if !isLead(part) {
			return false
		}
	}
	return p.Kind == api.Vector || len(p.Rest) == 0 || isLead(p.Rest[0])
}

// isJoined tells whether no list in a datum has a List as its Rest, or a Rest without items, as read makes them: others are joined when they are made again.
func isJoined(d api.Datum) bool {
	if d.Kind == api.List && len(d.Rest) > 0 && (len(d.Items) == 0 || d.Rest[0].Kind == api.List) {
		return false
	}
	for _, p := range partsOf(d) {
		if !isJoined(p) {
			return false
		}
	}
	return true
}

// P7.4, of patterns and forms of all kinds.
func TestAnyMadeAgain(t *testing.T) {
	count := 0
	for seed := range 40000 {
		d := dice(seed + 1)
		pattern := d.pattern(1+seed%5, names())
		form := d.grown(pattern)
		if _, ok := match.Match(pattern, form); ok && isLead(pattern) && isJoined(form) && isJoined(pattern) {
			remakes(t, pattern, form)
			count++
		}
	}
	if count < 4000 {
		t.Errorf("%d", count)
	}
}

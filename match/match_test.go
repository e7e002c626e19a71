package match_test

import (
	"strconv"
	"strings"
	"testing"

	"tandem/api"
	"tandem/match"
	"tandem/num"
	"tandem/read"
	"tandem/show"
)

func integer(n api.Num) api.Datum { return api.Datum{Kind: api.Int, Num: n} }
func whole(n int64) api.Datum     { return integer(num.Of(n)) }
func text(s string) api.Datum     { return api.Datum{Kind: api.String, Text: s} }
func symbol(s string) api.Datum   { return api.Datum{Kind: api.Symbol, Text: s} }
func marked(s string, mark int) api.Datum {
	return api.Datum{Kind: api.Symbol, Text: s, N: mark}
}
func list(d ...api.Datum) api.Datum   { return api.Datum{Kind: api.List, Items: d} }
func vector(d ...api.Datum) api.Datum { return api.Datum{Kind: api.Vector, Items: d} }
func dotted(rest api.Datum, d ...api.Datum) api.Datum {
	return api.Datum{Kind: api.List, Items: d, Rest: []api.Datum{rest}}
}
func condition(class string, d ...api.Datum) api.Datum {
	return api.Datum{Kind: api.Cond, Text: class, Items: d}
}

// one is the datum of a text.
func one(s string) api.Datum {
	d, next, e := read.One(s, 0)
	if e != api.OK || next != len(s) {
		panic(s)
	}
	return d
}

// told tells binds: a mark behind a ~, below an ellipsis what it stands for each time.
func told(binds []api.Bind) string {
	var all []string
	for _, b := range binds {
		s := b.Name
		if b.Mark != 0 {
			s += "~" + strconv.Itoa(b.Mark)
		}
		if b.Depth > 0 {
			s += "=[" + told(b.Subs) + "]"
		} else {
			s += "=" + show.Write(b.D)
		}
		all = append(all, s)
	}
	return strings.Join(all, " ")
}

// toldVars tells variables, with their depths.
func toldVars(vars []api.Bind) string {
	var all []string
	for _, b := range vars {
		all = append(all, b.Name+"~"+strconv.Itoa(b.Mark)+"/"+strconv.Itoa(b.Depth))
	}
	return strings.Join(all, " ")
}

// sound tells whether binds have the fields alone that they are to have, of these depths.
func sound(binds []api.Bind, vars []api.Bind) bool {
	if len(binds) != len(vars) {
		return false
	}
	for i, b := range binds {
		v := vars[i]
		if b.Name != v.Name || b.Mark != v.Mark || b.Depth != v.Depth {
			return false
		}
		if b.Depth == 0 && len(b.Subs) > 0 || b.Depth > 0 && !isZero(b.D) {
			return false
		}
		v.Depth--
		for _, s := range b.Subs {
			if !sound([]api.Bind{s}, []api.Bind{v}) {
				return false
			}
		}
	}
	return true
}

func isZero(d api.Datum) bool {
	return d.Kind == 0 && d.N == 0 && !d.Num.Neg && len(d.Num.Mag) == 0 && d.Text == "" && len(d.Items) == 0 && len(d.Rest) == 0
}

// meets wants a form to match, with these binds.
func meets(t *testing.T, pattern, form api.Datum, want string, literals ...api.Datum) {
	t.Helper()
	binds, ok := match.Match(pattern, form, literals...)
	if !ok || told(binds) != want {
		t.Errorf("%s of %s: %v, %s, not %s", show.Write(pattern), show.Write(form), ok, told(binds), want)
	}
	if vars, e := match.Vars(pattern, literals...); e != api.OK || !sound(binds, vars) {
		t.Errorf("%s of %s: %+v, of variables %+v, error %d", show.Write(pattern), show.Write(form), binds, vars, e)
	}
}

// parts wants a form not to match, though the pattern is one.
func parts(t *testing.T, pattern, form api.Datum, literals ...api.Datum) {
	t.Helper()
	if _, e := match.Vars(pattern, literals...); e != api.OK {
		t.Errorf("%s: error %d", show.Write(pattern), e)
	}
	if binds, ok := match.Match(pattern, form, literals...); ok || len(binds) > 0 {
		t.Errorf("%s of %s: %v, %s", show.Write(pattern), show.Write(form), ok, told(binds))
	}
}

// refused wants what is no pattern, which matches nothing.
func refused(t *testing.T, pattern api.Datum, literals ...api.Datum) {
	t.Helper()
	if vars, e := match.Vars(pattern, literals...); e != api.ErrMatch || len(vars) > 0 {
		t.Errorf("%.80s: %s, error %d", show.Write(pattern), toldVars(vars), e)
	}
	for _, form := range []api.Datum{pattern, list(), whole(1), symbol("..."), list(symbol("a"))} {
		if binds, ok := match.Match(pattern, form, literals...); ok || len(binds) > 0 {
			t.Errorf("%.80s of %.80s: %v, %s", show.Write(pattern), show.Write(form), ok, told(binds))
		}
	}
}

// fills wants what comes of a template.
func fills(t *testing.T, template api.Datum, binds []api.Bind, want string) {
	t.Helper()
	if d, e := match.Fill(template, binds); e != api.OK || show.Write(d) != want {
		t.Errorf("%s with %s: %s, error %d, not %s", show.Write(template), told(binds), show.Write(d), e, want)
	}
}

// fails wants the error of a template.
func fails(t *testing.T, template api.Datum, binds []api.Bind, want api.Errno) {
	t.Helper()
	if d, e := match.Fill(template, binds); e != want || !isZero(d) {
		t.Errorf("%.80s: %.80s, error %d, not %d", show.Write(template), show.Write(d), e, want)
	}
}

// bound are the binds of a match.
func bound(pattern, form string) []api.Bind {
	binds, ok := match.Match(one(pattern), one(form))
	if !ok {
		panic(pattern + " of " + form)
	}
	return binds
}

// The chapter's own.
func TestExamples(t *testing.T) {
	meets(t, one("(_ a b ...)"), one("(f 1 2 3)"), "a=1 b=[b=2 b=3]")
	fills(t, one("(list b ... a)"), bound("(_ a b ...)", "(f 1 2 3)"), "(list 2 3 1)")
	meets(t, one("(_ (x y) ...)"), one("(f (1 2) (3 4))"), "x=[x=1 x=3] y=[y=2 y=4]")
	fills(t, one("(... ...)"), nil, "...")
}

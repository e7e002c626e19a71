package expand_test

import (
	"strconv"
	"strings"
	"testing"

	"tandem/api"
	"tandem/expand"
	"tandem/num"
	"tandem/read"
	"tandem/show"
)

func whole(n int64) api.Datum             { return api.Datum{Kind: api.Int, Num: num.Of(n)} }
func text(s string) api.Datum             { return api.Datum{Kind: api.String, Text: s} }
func symbol(s string) api.Datum           { return marked(s, 0) }
func marked(s string, mark int) api.Datum { return api.Datum{Kind: api.Symbol, Text: s, N: mark} }
func list(d ...api.Datum) api.Datum       { return api.Datum{Kind: api.List, Items: d} }
func vector(d ...api.Datum) api.Datum     { return api.Datum{Kind: api.Vector, Items: d} }
func condition(d ...api.Datum) api.Datum  { return api.Datum{Kind: api.Cond, Text: "type", Items: d} }
func dotted(rest api.Datum, d ...api.Datum) api.Datum {
	return api.Datum{Kind: api.List, Items: d, Rest: []api.Datum{rest}}
}

// all are the data of a text.
func all(s string) []api.Datum {
	data, _, e := read.All(s)
	if e != api.OK {
		panic(s)
	}
	return data
}

func one(s string) api.Datum { return all(s)[0] }

// told tells a core form: variables by their numbers, primitives behind a %, constants behind a '.
func told(c api.Core) string {
	var vars, subs []string
	for _, v := range c.Vars {
		vars = append(vars, strconv.Itoa(v))
	}
	if c.Rest {
		vars = append(vars, "*")
	}
	for _, s := range c.Subs {
		subs = append(subs, told(s))
	}
	row, bound := strings.Join(subs, " "), "["+strings.Join(vars, " ")+"] "
	switch c.Kind {
	case api.CConst:
		return "'" + show.Write(c.D[0])
	case api.CLocal:
		return strconv.Itoa(c.N)
	case api.CGlobal:
		return c.Name
	case api.CPrim:
		return "%" + api.Prims()[c.N].Name
	case api.CIf:
		return "(if " + row + ")"
	case api.CLambda:
		return "(fn:" + c.Name + bound + row + ")"
	case api.CCall:
		return "(" + row + ")"
	case api.CSeq:
		return "{" + row + "}"
	case api.CSetLoc:
		return "(" + strconv.Itoa(c.N) + "! " + row + ")"
	case api.CSetGlo:
		return "(" + c.Name + "! " + row + ")"
	case api.CDefine:
		return "(def " + c.Name + " " + row + ")"
	case api.CLet:
		return "(let" + bound + row + ")"
	case api.CRec:
		return "(rec" + bound + row + ")"
	case api.CLoop:
		return "(loop" + bound + row + ")"
	case api.CAgain:
		return "(again" + strings.TrimRight(" "+row, " ") + ")"
	}
	return "?" + strconv.Itoa(c.Kind)
}

func toldAll(forms []api.Core) string {
	var out []string
	for _, c := range forms {
		out = append(out, told(c))
	}
	return strings.Join(out, "; ")
}

// comes wants what comes of a program.
func comes(t *testing.T, s, want string) {
	t.Helper()
	forms, at, e := expand.Program(all(s))
	if got := toldAll(forms); e != api.OK || at != 0 || got != want {
		t.Errorf("%s: %s, error %d at %d, not %s", s, got, e, at, want)
	}
	wellFormed(t, s, forms)
}

// row is a program, and what comes of it.
type row struct{ program, want string }

func comeAll(t *testing.T, rows []row) {
	t.Helper()
	for _, r := range rows {
		comes(t, r.program, r.want)
	}
}

// fails wants an error, at the last datum of a program.
func fails(t *testing.T, s string, want api.Errno) {
	t.Helper()
	failsData(t, all(s), want)
}

func failsData(t *testing.T, data []api.Datum, want api.Errno) {
	t.Helper()
	forms, at, e := expand.Program(data)
	if e != want || at != len(data)-1 || forms != nil {
		t.Errorf("%.80s: %s, error %d at %d, not error %d", show.Write(data[len(data)-1]), toldAll(forms), e, at, want)
	}
}

// The chapter's examples.
func TestExamples(t *testing.T) {
	comes(t, "((lambda (x) x) 1)", "((fn:[0] 0) '1)")
	comes(t, "(define-syntax swap (syntax-rules () ((_ a b) (let ((t a)) (set! a b) (set! b t))))) (let ((t 1) (u 2)) (swap t u) t)",
		"(let[0 1] '1 '2 {(let[2] 0 {(0! 1) (1! 2)}) 0})")
	fails(t, "(if)", api.ErrForm)
	fails(t, "(set! car 1)", api.ErrName)
}

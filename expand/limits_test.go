package expand_test

import (
	"runtime/debug"
	"slices"
	"strings"
	"testing"

	"tandem/api"
	"tandem/expand"
	"tandem/show"
)

// constants are so many core forms.
func constants(n int) []api.Datum {
	data := make([]api.Datum, n)
	for i := range data {
		data[i] = api.Datum{Kind: api.Bool}
	}
	return data
}

// ends wants how a program ends.
func ends(t *testing.T, data []api.Datum, wantAt int, want api.Errno) {
	t.Helper()
	forms, at, e := expand.Program(data)
	if at != wantAt || e != want || e != api.OK && forms != nil {
		t.Errorf("%.60s: error %d at %d, not %d at %d", show.Write(data[len(data)-1]), e, at, want, wantAt)
	}
}

func coreCount(forms []api.Core) int {
	n := len(forms)
	for _, f := range forms {
		n += coreCount(f.Subs)
	}
	return n
}

// P8.1: MaxCore core forms in all; each one counts, whatever it is of.
func TestMaxCore(t *testing.T) {
	ends(t, constants(api.MaxCore), 0, api.OK)
	ends(t, constants(api.MaxCore+1), api.MaxCore, api.ErrSteps)
	var rows []row
	for _, more := range [][]row{plainRows(), letRows(), clauseRows(), bodyRows(), quasiRows()[:20], hygieneRows()[:8]} {
		rows = append(rows, more...)
	}
	for i, r := range rows {
		data := all(r.program)
		forms, _, _ := expand.Program(data)
		n := coreCount(forms)
		if n < 2 || i%5 > 0 && n < 9 {
			continue
		}
		ends(t, append(constants(api.MaxCore-n), data...), 0, api.OK)
		ends(t, append(constants(api.MaxCore-n+1), data...), api.MaxCore-n+len(data), api.ErrSteps)
	}
}

// Which error is met first, where both are near: a core form is met ahead of its parts.
func TestMaxCoreOrder(t *testing.T) {
	call := func(n int) api.Datum {
		return list(append(append([]api.Datum{symbol("list")}, constants(n)...), one("(if)"))...)
	}
	ends(t, []api.Datum{call(api.MaxCore - 2)}, 0, api.ErrForm)
	ends(t, []api.Datum{call(api.MaxCore - 1)}, 0, api.ErrSteps)
	ends(t, append(constants(api.MaxCore), one("(if)")), api.MaxCore, api.ErrForm)
	ends(t, append(constants(api.MaxCore), one("(set! car 1)")), api.MaxCore, api.ErrName)
	ends(t, append(constants(api.MaxCore), one("(if (set! car 1) 2)")), api.MaxCore, api.ErrSteps)
	ends(t, append(constants(api.MaxCore), one("(lambda () (define x 1) (define x 2) x)")), api.MaxCore, api.ErrSteps)
	ends(t, append(constants(api.MaxCore), one("(define car 1)")), api.MaxCore, api.ErrName)
	ends(t, append(constants(api.MaxCore), all("(begin) (define-syntax m (syntax-rules () ((_) (begin)))) (m)")...), 0, api.OK)
}

// P8.1: MaxSteps uses of macros in all, wherever they are.
func TestMaxSteps(t *testing.T) {
	define := all("(define-syntax m (syntax-rules () ((_) (begin)) ((_ 1) 1) ((_ x y) (m x))))")
	uses := func(n int, more ...string) []api.Datum {
		data := slices.Clone(define)
		for range n {
			data = append(data, one("(m)"))
		}
		return append(data, all(strings.Join(more, " "))...)
	}
	ends(t, uses(api.MaxSteps), 0, api.OK)
	ends(t, uses(api.MaxSteps+1), api.MaxSteps+1, api.ErrSteps)
	ends(t, uses(api.MaxSteps-2, "(m 1 1)"), 0, api.OK)
	ends(t, uses(api.MaxSteps-1, "(m 1 1)"), api.MaxSteps, api.ErrSteps)
	ends(t, uses(api.MaxSteps-2, "(f (m 1) (m 1))"), 0, api.OK)
	ends(t, uses(api.MaxSteps-1, "(f (m 1) (m 1))"), api.MaxSteps, api.ErrSteps)
	ends(t, uses(api.MaxSteps-2, "(lambda () (m) (m 1))"), 0, api.OK)
	ends(t, uses(api.MaxSteps-1, "(lambda () (m) (m 1))"), api.MaxSteps, api.ErrSteps)
	// The one too many is one, though no rule takes it.
	ends(t, uses(api.MaxSteps-1, "(m 1 2 3)"), api.MaxSteps, api.ErrMatch)
	ends(t, uses(api.MaxSteps, "(m 1 2 3)"), api.MaxSteps+1, api.ErrSteps)
	for _, s := range []string{"(m)", "(begin (m))", "(f (m))", "(begin 1 (m))", "(begin (begin) (m))", "(let ((x 1)) (m))", "(m) 1", "(if 1 (m) (m))"} {
		fails(t, "(define-syntax m (syntax-rules () ((_) "+strings.TrimSuffix(s, " 1")+"))) (m)", api.ErrSteps)
		fails(t, "(lambda () (define-syntax m (syntax-rules () ((_) "+strings.TrimSuffix(s, " 1")+"))) (m))", api.ErrSteps)
	}
}

// What one use makes has MaxSteps parts at most.
func TestMuchOfOneUse(t *testing.T) {
	define := all(rules("() ((_ x ...) '(x ...))"))
	use := func(n int) api.Datum { return list(append([]api.Datum{symbol("m")}, constants(n)...)...) }
	ends(t, append(define, use(api.MaxSteps-3)), 0, api.OK)
	ends(t, append(define, use(api.MaxSteps-2)), 1, api.ErrSteps)
	fails(t, rules("() ((_ x ...) (m x ... x ...))")+"(m 1)", api.ErrSteps)
}

func nested(deep int, d api.Datum, around func(api.Datum) api.Datum) api.Datum {
	for range deep {
		d = around(d)
	}
	return d
}

func ways() []func(api.Datum) api.Datum {
	return []func(api.Datum) api.Datum{
		func(d api.Datum) api.Datum { return list(d) },
		func(d api.Datum) api.Datum { return vector(whole(1), d, whole(2)) },
		func(d api.Datum) api.Datum { return dotted(d, whole(1)) },
		func(d api.Datum) api.Datum { return dotted(d) },
		func(d api.Datum) api.Datum { return condition(d) },
		func(d api.Datum) api.Datum { return dotted(whole(1), d) },
	}
}

// P8.1: a datum is MaxDepth deep at most, and so is what a use makes; that is told ahead of all else of it.
func TestMaxDepth(t *testing.T) {
	define := all(rules("() ((_ x) '(x)) ((_ x y) 1)") + "(define-syntax n (syntax-rules () ((_ x) (if '(x)))))")
	for _, way := range ways() {
		deep := func(n int) api.Datum { return nested(n-1, symbol("a"), way) }
		ends(t, []api.Datum{list(symbol("quote"), deep(api.MaxDepth-1))}, 0, api.OK)
		ends(t, []api.Datum{list(symbol("quote"), deep(api.MaxDepth))}, 0, api.ErrDeep)
		ends(t, []api.Datum{whole(1), list(symbol("if"), deep(api.MaxDepth)), deep(200)}, 1, api.ErrDeep)
		ends(t, []api.Datum{one("(if)"), deep(api.MaxDepth + 1)}, 0, api.ErrForm)
		ends(t, append(define, list(symbol("m"), deep(api.MaxDepth-2))), 0, api.OK)
		ends(t, append(define, list(symbol("m"), deep(api.MaxDepth-1))), 2, api.ErrDeep)
		ends(t, append(define, list(symbol("m"), deep(api.MaxDepth-1), whole(1))), 0, api.OK)
		ends(t, append(define, list(symbol("n"), deep(api.MaxDepth-1))), 2, api.ErrDeep)
		ends(t, append(define, list(symbol("n"), deep(api.MaxDepth-3))), 2, api.ErrForm)
		ends(t, append(define, list(symbol("lambda"), list(), list(symbol("m"), deep(api.MaxDepth-2)))), 0, api.OK)
		// What is no part is not deep.
		ends(t, []api.Datum{{Kind: api.Void, Items: []api.Datum{deep(200)}, Rest: []api.Datum{deep(200)}}}, 0, api.OK)
		ends(t, []api.Datum{{Kind: api.Vector, Rest: []api.Datum{deep(200)}}}, 0, api.OK)
		ends(t, []api.Datum{list(symbol("quote"), api.Datum{Kind: api.List, Items: []api.Datum{whole(1)}, Rest: []api.Datum{whole(2), deep(200)}})}, 0, api.OK)
	}
	fails(t, rules("() ((_ x) (m (x)))")+"(m 1)", api.ErrDeep)
	ends(t, append(constants(api.MaxCore), nested(200, whole(1), ways()[0])), api.MaxCore, api.ErrDeep)
}

// within puts a form into so many others.
func within(n int, before, form, after string) string {
	return strings.Repeat(before, n) + form + strings.Repeat(after, n)
}

// R1: forms that make no core forms may be in one another far more often than calls go.
func TestDeepForms(t *testing.T) {
	defer debug.SetMaxStack(debug.SetMaxStack(1 << 24))
	const before = "(begin (and (or (let () (let* () (letrec () (let-syntax ((x (syntax-rules ()))) (letrec-syntax () (cond (else (quasiquote (unquote (let () (begin) (define-syntax y (syntax-rules ())) "
	mixed := rules("() ((_) " + within(1, before, "(m)", ")))))))))))))") + ")")
	fails(t, mixed+"(m)", api.ErrSteps)
	fails(t, mixed+"(lambda () (m))", api.ErrSteps)
	spliced := rules("() ((_) " + within(3, "(begin ", "(m)", " (begin))") + ")")
	fails(t, spliced+"(m)", api.ErrSteps)
	fails(t, spliced+"(lambda () (m) 1)", api.ErrSteps)
}

// R1: core forms are in one another at most as often as there may be core forms.
func TestDeepCores(t *testing.T) {
	defer debug.SetMaxStack(debug.SetMaxStack(1 << 28))
	for _, s := range []string{
		within(90, "(car ", "(m)", ")"), within(90, "(if ", "(m)", " 1)"), within(90, "(if 1 ", "(m)", ")"), within(90, "(lambda (x) ", "(m)", ")"), within(90, "(lambda () (define x 1) ", "(m)", ")"), within(45, "(lambda () (define (x) ", "(m)", ") 1)"), within(30, "(let ((x ", "(m)", ")) 1)"), within(90, "(let ((x 1)) ", "(m)", ")"), within(90, "(let x () ", "(m)", ")"), within(90, "(let* ((x 1) (y 2)) ", "(m)", ")"), within(90, "(letrec ((x 1)) ", "(m)", ")"), within(90, "(set! x ", "(m)", ")"), within(90, "(begin 1 ", "(m)", ")"), within(90, "(and 1 ", "(m)", ")"), within(90, "(or 1 ", "(m)", ")"), within(90, "(or ", "(m)", " 1)"), within(90, "(when 1 ", "(m)", ")"), within(45, "(cond (1) (else ", "(m)", "))"), within(45, "(cond (1 => ", "(m)", "))"), within(45, "(case 1 (else ", "(m)", "))"), within(45, "(do () (1) (f ", "(m)", "))"), within(30, "(quasiquote (1 (unquote ", "(m)", ")))"),
	} {
		fails(t, rules("() ((_) "+s+")")+"(m)", api.ErrSteps)
	}
}

// many is a list of a word, an item so many times, and more.
func many(word string, n int, item api.Datum, more ...api.Datum) api.Datum {
	l := list(symbol(word))
	for range n {
		l.Items = append(l.Items, item)
	}
	l.Items = append(l.Items, more...)
	return l
}

// Long forms, too, make core forms that are deep.
func TestLongForms(t *testing.T) {
	defer debug.SetMaxStack(debug.SetMaxStack(1 << 28))
	pairs := many("", 9999, one("(x 1)"))
	pairs.Items = pairs.Items[1:]
	for _, d := range []api.Datum{
		many("cond", 6666, one("(1 2)")), many("cond", 3999, one("(1)")), many("and", 6667, whole(1)), many("or", 4000, whole(1)), many("begin", 19999, whole(1)), many("f", 19998, whole(1)), list(symbol("let*"), pairs, whole(1)), list(symbol("quasiquote"), many("x", 6665, one(",x"))),
	} {
		n := 0
		if forms, _, e := expand.Program([]api.Datum{d}); e == api.OK {
			n = coreCount(forms)
		}
		if n < api.MaxCore-10 {
			t.Errorf("%s: %d core forms", d.Items[0].Text, n)
		}
	}
	for _, d := range []api.Datum{many("cond", 100000, one("(1 2)")), many("cond", 100000, one("(1)")), many("and", 100000, whole(1)), many("or", 100000, whole(1)), many("f", 100000, whole(1)), many("case", 100000, one("((1) 2)"), one("(else 1)")), list(symbol("quasiquote"), many("x", 100000, one(",x")))} {
		if d.Items[0].Text == "case" {
			d.Items[1] = whole(1)
		}
		ends(t, []api.Datum{d}, 0, api.ErrSteps)
	}
	ends(t, []api.Datum{list(symbol("quote"), many("f", 100000, whole(1)))}, 0, api.OK)
	ends(t, []api.Datum{many("begin", 100000, list(symbol("begin")))}, 0, api.OK)
}

// Scopes may be very many, one in the other, and symbols be given new marks again and again.
func TestManyScopes(t *testing.T) {
	fails(t, rules("() ((_ x) (let-syntax ((n (syntax-rules () ((_) (begin (f x) (m x)))))) (n)))")+"(m y)", api.ErrSteps)
	fails(t, rules("() ((_ x) (let ((t x)) (m t)))")+"(m y)", api.ErrSteps)
	fails(t, rules("() ((_ x) (let ((t x)) (m x)))")+"(let ((y 1)) (m y))", api.ErrSteps)
	pairs := list()
	for range 6000 {
		pairs.Items = append(pairs.Items, one("(x x)"))
	}
	comes(t, "(define-syntax m (syntax-rules () ((_) x)))", "")
	forms, _, e := expand.Program([]api.Datum{one("(define-syntax m (syntax-rules () ((_) x)))"), list(symbol("let*"), pairs, one("(f x (m))"))})
	if e != api.OK || !strings.Contains(toldAll(forms), "(f 5999 x)") {
		t.Errorf("error %d", e)
	}
}

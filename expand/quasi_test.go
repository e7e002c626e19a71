package expand_test

import (
	"testing"

	"tandem/api"
	"tandem/expand"
)

func quasiRows() []row {
	return []row{
		{"`1", "'1"}, {"`a", "'a"}, {"`()", "'()"}, {"`(1 2)", "'(1 2)"}, {"`(1 . 2)", "'(1 . 2)"}, {"`#(1 (2))", "'#(1 (2))"}, {"`,x", "x"}, {"`,(f 1)", "(f '1)"}, {"(lambda (x) `(x ,x))", "(fn:[0] (%cons 'x (%cons 0 '())))"},
		{"`(,a 1 2)", "(%cons a (%cons '1 (%cons '2 '())))"}, {"`(1 (2 3) ,a (4 . 5))", "(%cons '1 (%cons '(2 3) (%cons a (%cons '(4 . 5) '()))))"}, {"`((1 ,a) 2)", "(%cons (%cons '1 (%cons a '())) (%cons '2 '()))"}, {"`(,@a)", "(%append a '())"}, {"`(1 ,@a 2 ,@b)", "(%cons '1 (%append a (%cons '2 (%append b '()))))"}, {"`(,@a . 5)", "(%append a '5)"}, {"`(,a . b)", "(%cons a 'b)"}, {"`(,a . (b c))", "(%cons a (%cons 'b (%cons 'c '())))"}, {"`(,a . #(1))", "(%cons a '#(1))"}, {"`(,a . #(1 ,b))", "(%cons a (%list->vector (%cons '1 (%cons b '()))))"},
		{"`(1 . ,a)", "(%cons '1 a)"}, {"`(,@a . ,b)", "(%append a b)"}, {"`((1 . ,a) . ,b)", "(%cons (%cons '1 a) b)"}, {"`(1 unquote a)", "(%cons '1 a)"}, {"`(1 ,a unquote b)", "(%cons '1 (%cons a b))"},
		{"`#(,a)", "(%list->vector (%cons a '()))"}, {"`#(1 ,@a)", "(%list->vector (%cons '1 (%append a '())))"}, {"`(#(,a) #(1))", "(%cons (%list->vector (%cons a '())) (%cons '#(1) '()))"},
		// Others than of two items are lists like others.
		{"`(unquote)", "'(unquote)"}, {"`(unquote a b)", "'(unquote a b)"}, {"`(1 unquote)", "'(1 unquote)"}, {"`(1 unquote a b)", "'(1 unquote a b)"}, {"`(unquote-splicing a b)", "'(unquote-splicing a b)"}, {"`(quasiquote a b)", "'(quasiquote a b)"}, {"`(1 (quasiquote ,a b) (unquote))", "(%cons '1 (%cons (%cons 'quasiquote (%cons a (%cons 'b '()))) (%cons '(unquote) '())))"}, {"`(unquote unquote a)", "(%cons 'unquote a)"}, {"`(unquote . 5)", "'(unquote . 5)"}, {"`(1 unquote a . b)", "'(1 unquote a . b)"}, {"`(1 unquote-splicing a)", "'(1 unquote-splicing a)"}, {"`(1 quasiquote ,a)", "(%cons '1 (%cons 'quasiquote (%cons a '())))"},
		// Depths.
		{"`(1 `(2 ,(3)))", "'(1 (quasiquote (2 (unquote (3)))))"}, {"``,a", "'(quasiquote (unquote a))"}, {"``,,a", "(%cons 'quasiquote (%cons (%cons 'unquote (%cons a '())) '()))"}, {"`(a `(b ,(c ,d)))", "(%cons 'a (%cons (%cons 'quasiquote (%cons (%cons 'b (%cons (%cons 'unquote (%cons (%cons 'c (%cons d '())) '())) '())) '())) '()))"}, {"`(1 `,@(2 ,a))", "(%cons '1 (%cons (%cons 'quasiquote (%cons (%cons 'unquote-splicing (%cons (%cons '2 (%cons a '())) '())) '())) '()))"}, {"``,,@a", "(%cons 'quasiquote (%cons (%cons 'unquote (%append a '())) '()))"}, {"``(1 . ,,a)", "(%cons 'quasiquote (%cons (%cons '1 (%cons 'unquote (%cons a '()))) '()))"}, {"``(,,a . ,b)", "(%cons 'quasiquote (%cons (%cons (%cons 'unquote (%cons a '())) '(unquote b)) '()))"}, {"``#(,,a)", "(%cons 'quasiquote (%cons (%list->vector (%cons (%cons 'unquote (%cons a '())) '())) '()))"}, {"`,`,a", "a"}, {"`(1 ,`(2 ,a))", "(%cons '1 (%cons (%cons '2 (%cons a '())) '()))"}, {"```,,a", "'(quasiquote (quasiquote (unquote (unquote a))))"},
		// A vector is made of its list.
		{"`#(unquote a)", "(%list->vector a)"}, {"`#(1 unquote a)", "(%list->vector (%cons '1 a))"},
		// By what the words mean.
		{"(let ((unquote 1)) `(2 ,x))", "(let[0] '1 '(2 (unquote x)))"}, {"(let ((unquote-splicing 1)) `(2 ,@x ,x))", "(let[0] '1 (%cons '2 (%cons '(unquote-splicing x) (%cons x '()))))"}, {"(let ((cons 1) (append 2)) `(,cons ,@append))", "(let[0 1] '1 '2 (%cons 0 (%append 1 '())))"}, {"(let ((quasiquote 1)) `(2 ,x))", ""}, {rules("() ((_ x) `(x ,x ,@x . ,x))") + "(m a) (let ((unquote 1) (quasiquote 2)) (m a))", "(%cons 'a (%cons a (%append a a))); (let[0 1] '1 '2 (%cons 'a (%cons a (%append a a))))"},
		{"(lambda (x) `(1 ,(or x 2) ,@(or 3 x)))", "(fn:[0] (%cons '1 (%cons (let[1] 0 (if 1 1 '2)) (%append (let[2] '3 (if 2 2 0)) '()))))"},
	}
}

func TestQuasi(t *testing.T) {
	for _, r := range quasiRows() {
		if r.want == "" {
			fails(t, r.program, api.ErrForm)
			continue
		}
		comes(t, r.program, r.want)
	}
}

func noQuasiRows() []string {
	return []string{"`,@x", "(quasiquote)", "(quasiquote a b)", "(quasiquote . a)", "`(1 ,(if))", "`(,@(if))", "`#(1 ,(if))", "`(1 . ,(if))", ",x", ",@x", "(unquote)", "`(1 ,(unquote x))", "`(1 ,,x)", "``,,,x", "`#(unquote-splicing x)"}
}

func TestNoQuasi(t *testing.T) {
	for _, s := range noQuasiRows() {
		fails(t, s, api.ErrForm)
	}
}

// Lists that are not read: a Rest that is a list, or without items.
func TestOddQuasi(t *testing.T) {
	unquoted := func(word string) api.Datum { return list(symbol(word), symbol("a")) }
	for _, x := range []struct {
		d    api.Datum
		want string
	}{
		{dotted(unquoted("unquote"), whole(1)), "(%cons '1 a)"},
		{dotted(list(whole(2), unquoted("unquote")), whole(1)), "(%cons '1 (%cons '2 (%cons a '())))"},
		{dotted(unquoted("unquote")), "a"},
		{dotted(list(unquoted("unquote-splicing")), whole(1)), "(%cons '1 (%append a '()))"},
		{dotted(list(whole(2)), unquoted("unquote")), "(%cons a '(2))"},
		{condition(unquoted("unquote")), "'#<condition type (unquote a)>"},
		{dotted(symbol("a"), symbol("unquote")), "'(unquote . a)"},
	} {
		forms, _, e := expand.Program([]api.Datum{list(symbol("quasiquote"), x.d)})
		if got := toldAll(forms); e != api.OK || got != x.want {
			t.Errorf("%s, error %d, not %s", got, e, x.want)
		}
	}
	failsData(t, []api.Datum{list(symbol("quasiquote"), dotted(unquoted("unquote-splicing"), whole(1)))}, api.ErrForm)
	failsData(t, []api.Datum{list(symbol("quasiquote"), dotted(unquoted("unquote-splicing")))}, api.ErrForm)
}

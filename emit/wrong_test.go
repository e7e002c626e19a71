package emit_test

import (
	"slices"
	"testing"

	"tandem/api"
)

// samples are right forms, one of each kind at least, in a place where locals 100 and 101 are bound and an again of one value may stand.
func samples() []api.Core {
	one := konst(1)
	return []api.Core{
		one, local(100), global("x"), prim("car"), choice(one, one, one), lambda(nil, one), lambda([]int{1, 2}, one), call(one), call(one, one), sequence(one, one), sequence(one, one, one), setLocal(100, one), setGlobal("x", one), define("x", one),
		let([]int{1}, one, one), let([]int{1, 2}, one, one, one), rec([]int{1}, one, one), rec([]int{1, 2}, one, one, one), loop(nil, one), loop([]int{1}, one, one), again(one),
	}
}

// inPlace is the program of a sample.
func inPlace(c api.Core) api.Core {
	return lambda([]int{100}, loop([]int{101}, konst(1), c))
}

// P9.1: each kind has its number of Subs, Vars, D.
func TestShapes(t *testing.T) {
	one := konst(1)
	for _, c := range samples() {
		made(t, inPlace(c))
		n := len(c.Subs)
		more, less, withVar, withDatum, withData := c, c, c, c, c
		more.Subs = append(slices.Clone(c.Subs), one)
		if c.Kind == api.CCall || c.Kind == api.CSeq {
			made(t, inPlace(more))
		} else {
			refused(t, api.ErrArg, inPlace(more))
		}
		if n > 0 {
			less.Subs = c.Subs[:n-1]
			if c.Kind == api.CCall && n > 1 || c.Kind == api.CSeq && n > 2 {
				made(t, inPlace(less))
			} else {
				refused(t, api.ErrArg, inPlace(less))
			}
		}
		withVar.Vars = append(slices.Clone(c.Vars), 50)
		if c.Kind == api.CLambda {
			made(t, inPlace(withVar))
		} else {
			refused(t, api.ErrArg, inPlace(withVar))
		}
		withDatum.D = append(slices.Clone(c.D), whole(1))
		withData.D = append(slices.Clone(c.D), whole(1), whole(2))
		refused(t, api.ErrArg, inPlace(withDatum))
		refused(t, api.ErrArg, inPlace(withData))
		if c.Kind == api.CConst {
			c.D = nil
			refused(t, api.ErrArg, inPlace(c))
		}
	}
	for _, kind := range []int{-1 << 63, -1, 0, 16, 17, 1<<63 - 1} {
		refused(t, api.ErrArg, api.Core{Kind: kind})
		refused(t, api.ErrArg, call(one, api.Core{Kind: kind}))
	}
	rest := lambda(nil, one)
	rest.Rest = true
	refused(t, api.ErrArg, rest)
	refused(t, api.ErrArg, call(one, rest))
	for _, c := range []api.Core{let([]int{0}, one), let(nil, one, one), let(nil), rec([]int{0}, one), rec(nil), loop([]int{0}, one), loop(nil), call(), sequence(), sequence(one), {Kind: api.CLambda}, {Kind: api.CIf}} {
		refused(t, api.ErrArg, c)
	}
}

// P9.1: variables are named where a form around them binds them, and are bound once.
func TestBound(t *testing.T) {
	one := konst(1)
	for _, use := range []api.Core{local(0), setLocal(0, one), lambda(nil, local(0)), call(one, lambda([]int{9}, setLocal(0, local(9))))} {
		for _, c := range []api.Core{lambda([]int{0}, use), lambda([]int{1, 0}, use), let([]int{0}, one, use), let([]int{1, 0}, one, one, sequence(one, use)), rec([]int{0}, one, use), rec([]int{0}, use, one), rec([]int{1, 0}, use, one, one), rec([]int{0, 1}, one, use, one), loop([]int{0}, one, use), loop([]int{0}, one, choice(use, one, again(one))), loop([]int{0}, one, again(use)), let([]int{0}, one, let([]int{1}, use, one)), let([]int{0}, one, loop([]int{1}, use, again(one)))} {
			made(t, c)
			made(t, call(one, c))
			refused(t, api.ErrArg, c, use)
			refused(t, api.ErrArg, use, c)
			refused(t, api.ErrArg, sequence(c, use))
			refused(t, api.ErrArg, call(use, c))
		}
		for _, c := range []api.Core{use, lambda([]int{1}, use), let([]int{0}, use, one), let([]int{0, 1}, one, use, one), let([]int{0, 1}, use, one, one), loop([]int{0}, use, one), loop([]int{0, 1}, one, use, one), let([]int{1}, let([]int{0}, one, one), use), let([]int{1}, rec([]int{0}, one, one), use), choice(lambda([]int{0}, one), use, one), rec([]int{1}, loop([]int{0}, one, one), use)} {
			refused(t, api.ErrArg, c)
			refused(t, api.ErrArg, one, c)
		}
	}
	binds := []func(v int) api.Core{
		func(v int) api.Core { return lambda([]int{v}, one) }, func(v int) api.Core { return let([]int{v}, one, one) }, func(v int) api.Core { return rec([]int{v}, one, one) }, func(v int) api.Core { return loop([]int{v}, one, one) },
	}
	for _, a := range binds {
		for _, b := range binds {
			made(t, a(0), b(1))
			refused(t, api.ErrArg, a(0), b(0))
			refused(t, api.ErrArg, call(a(0), b(0)))
			refused(t, api.ErrArg, call(a(0), lambda([]int{1}, b(0))))
			within := a(0)
			last := len(within.Subs) - 1
			within.Subs[last] = b(1)
			made(t, within)
			within.Subs[last] = b(0)
			refused(t, api.ErrArg, within)
			within.Subs[last], within.Subs[0] = one, b(0)
			refused(t, api.ErrArg, within)
		}
	}
	for _, c := range []api.Core{lambda([]int{3, 4, 3}, one), let([]int{3, 3}, one, one, one), rec([]int{3, 3}, one, one, one), loop([]int{3, 3}, one, one, one)} {
		refused(t, api.ErrArg, c)
	}
}

// P9.1: an again stands in a tail place of its loop's body, with as many values as that has variables.
func TestAgains(t *testing.T) {
	one := konst(1)
	body := func(c api.Core) api.Core { return loop([]int{0}, one, c) }
	a := again(one)
	for _, c := range []api.Core{a, choice(one, a, one), choice(one, one, a), choice(one, a, a), sequence(one, a), let([]int{1}, one, a), rec([]int{1}, one, a), let(nil, a), choice(one, choice(one, one, sequence(one, let([]int{1}, one, a))), a), loop(nil, again()), loop([]int{1, 2}, one, one, again(one, one))} {
		made(t, body(c))
		made(t, lambda(nil, body(c)))
		made(t, call(body(c)))
	}
	for _, c := range []api.Core{again(), again(one, one), choice(a, one, one), sequence(a, one), sequence(one, a, one), call(a), call(one, a), call(prim("car"), a), define("x", a), setGlobal("x", a), setLocal(0, a), lambda(nil, a), let([]int{1}, a, one), rec([]int{1}, a, one), loop([]int{1}, a, one), loop([]int{1, 2}, one, a, one), loop(nil, a), loop([]int{1, 2}, one, one, a), again(a), let([]int{1}, one, again()), call(lambda(nil, loop(nil, a)))} {
		refused(t, api.ErrArg, body(c))
		refused(t, api.ErrArg, lambda(nil, body(c)))
	}
	for _, c := range []api.Core{again(), a, sequence(one, a), lambda(nil, again()), let([]int{1}, one, a), loop([]int{1}, a, one), choice(one, a, body(one)), sequence(body(one), a)} {
		refused(t, api.ErrArg, c)
	}
}

// P9.1: primitives have numbers, and constants a depth.
func TestPrimsAndDepths(t *testing.T) {
	one := konst(1)
	for n := range len(api.Prims()) {
		made(t, api.Core{Kind: api.CPrim, N: n})
		made(t, call(api.Core{Kind: api.CPrim, N: n}, one))
	}
	for _, n := range []int{-1 << 63, -1, len(api.Prims()), 1<<63 - 1} {
		refused(t, api.ErrArg, api.Core{Kind: api.CPrim, N: n})
		refused(t, api.ErrArg, call(api.Core{Kind: api.CPrim, N: n}, one))
	}
	for _, way := range deepWays() {
		made(t, data(nested(api.MaxDepth-1, whole(1), way)))
		made(t, lambda(nil, data(nested(api.MaxDepth-1, list(), way))))
		refused(t, api.ErrArg, data(nested(api.MaxDepth, whole(1), way)))
		refused(t, api.ErrArg, lambda(nil, data(nested(api.MaxDepth, list(), way))))
		refused(t, api.ErrArg, data(nested(300, whole(1), way)))
		// What is no part of a datum does not count.
		made(t, data(api.Datum{Kind: api.Void, Items: []api.Datum{nested(300, whole(1), way)}}))
		made(t, data(api.Datum{Kind: api.Vector, Rest: []api.Datum{nested(300, whole(1), way)}}))
		made(t, data(api.Datum{Kind: api.List, Items: []api.Datum{whole(1)}, Rest: []api.Datum{whole(2), nested(300, whole(1), way)}}))
	}
}

func nested(deep int, d api.Datum, around func(api.Datum) api.Datum) api.Datum {
	for range deep {
		d = around(d)
	}
	return d
}

func deepWays() []func(api.Datum) api.Datum {
	return []func(api.Datum) api.Datum{
		func(d api.Datum) api.Datum { return list(d) },
		func(d api.Datum) api.Datum { return vector(whole(1), d, whole(2)) },
		func(d api.Datum) api.Datum { return dotted(d, whole(1)) },
		func(d api.Datum) api.Datum { return dotted(d) },
		func(d api.Datum) api.Datum { return condition(d) },
		func(d api.Datum) api.Datum { return dotted(whole(1), d) },
	}
}

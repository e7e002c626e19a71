package emit_test

import (
	"runtime/debug"
	"slices"
	"testing"

	"tandem/api"
	"tandem/emit"
)

// P9.1: MaxCore core forms in all.
func TestMaxCore(t *testing.T) {
	one := konst(1)
	made(t, many(api.MaxCore, one)...)
	refused(t, api.ErrArg, many(api.MaxCore+1, one)...)
	made(t, sequence(many(api.MaxCore-1, one)...))
	refused(t, api.ErrArg, sequence(many(api.MaxCore, one)...))
	made(t, append(many(api.MaxCore-6, one), lambda(nil, choice(one, setGlobal("x", one), one)))...)
	refused(t, api.ErrArg, append(many(api.MaxCore-5, one), lambda(nil, choice(one, setGlobal("x", one), one)))...)
}

// P9.1: MaxArgs operands of a call, and variables of a lambda or a let; of others there may be more.
func TestMaxArgs(t *testing.T) {
	one := konst(1)
	const most = api.MaxArgs
	for _, operator := range []api.Core{global("f"), prim("+"), prim("car"), prim("apply"), lambda(nil, one)} {
		made(t, call(append([]api.Core{operator}, many(most, one)...)...))
		refused(t, api.ErrLong, call(append([]api.Core{operator}, many(most+1, one)...)...))
		refused(t, api.ErrLong, lambda(nil, call(append([]api.Core{operator}, many(most+1, one)...)...)))
		refused(t, api.ErrLong, call(append([]api.Core{operator}, many(3000, one)...)...))
	}
	for _, rest := range []bool{false, true} {
		args := lambda(vars(0, most), one)
		args.Rest = rest
		made(t, args)
		args.Vars = vars(0, most+1)
		refused(t, api.ErrLong, args)
		args.Vars = vars(0, 100000)
		refused(t, api.ErrLong, args)
	}
	made(t, let(vars(0, most), many(most+1, one)...))
	refused(t, api.ErrLong, let(vars(0, most+1), many(most+2, one)...))
	for _, n := range []int{most + 1, 1000, api.MaxStack / 2} {
		made(t, rec(vars(0, n), many(n+1, one)...))
		made(t, loop(vars(0, n), append(many(n, one), choice(one, one, again(many(n, local(n-1))...)))...))
		made(t, lambda(nil, rec(vars(0, n), many(n+1, one)...)))
	}
}

// P9.2: a closure has MaxArgs values at most, or layer 11 would not take the code.
func TestClosureValues(t *testing.T) {
	uses := func(n int) api.Core {
		all := []api.Core{konst(1)}
		for v := range n {
			all = append(all, local(v))
		}
		return sequence(all...)
	}
	const n = 100
	around := func(body api.Core) api.Core { return rec(vars(0, n), append(many(n, konst(1)), body)...) }
	made(t, around(lambda(nil, uses(api.MaxArgs))))
	made(t, around(lambda(nil, lambda(nil, uses(api.MaxArgs)))))
	made(t, around(sequence(lambda(nil, uses(api.MaxArgs)), lambda(nil, local(n-1)), uses(n))))
	refused(t, api.ErrLong, around(lambda(nil, uses(api.MaxArgs+1))))
	refused(t, api.ErrLong, around(lambda(nil, lambda(nil, uses(api.MaxArgs+1)))))
	refused(t, api.ErrLong, around(lambda(nil, sequence(lambda(nil, uses(api.MaxArgs)), lambda(nil, local(n-1))))))
}

// P9.1: MaxStack slots of a frame.
func TestMaxStack(t *testing.T) {
	one := konst(1)
	deep := func(n int, inner api.Core) api.Core { // inner begins at the slot n
		for range n {
			inner = call(one, inner)
		}
		return inner
	}
	for _, x := range []struct {
		c    api.Core
		want int // how many slots it needs
	}{
		{one, 1}, {global("x"), 1}, {prim("car"), 1}, {call(prim("+")), 1}, {call(prim("+"), one, one, one), 3}, {call(global("f"), one), 2}, {lambda(vars(0, 9), one), 1}, {choice(one, one, one), 1}, {choice(one, call(one, one), one), 2}, {choice(one, one, call(one, one)), 2}, {sequence(one, one, one), 1}, {sequence(call(one, one), one), 2}, {let([]int{0}, one, one), 2}, {let([]int{0, 1}, one, one, one), 3}, {let([]int{0}, one, local(0)), 2}, {let([]int{0}, one, setLocal(0, one)), 3}, {rec([]int{0}, one, one), 3}, {rec([]int{0, 1}, one, one, one), 4}, {rec([]int{0}, call(one, one), one), 4}, {rec([]int{0, 1}, local(0), lambda(nil, call(local(0), local(1))), one), 5}, {loop([]int{0}, one, one), 2}, {loop([]int{0}, one, choice(one, one, again(one))), 2}, {loop([]int{0, 1}, one, one, choice(one, one, again(one, one))), 4}, {loop([]int{0}, one, let([]int{1}, one, again(one))), 3}, {loop(nil, let([]int{1}, one, again())), 1}, {loop(nil, again()), 0}, {define("x", one), 1}, {setGlobal("x", call(one, one)), 2},
	} {
		made(t, deep(api.MaxStack-x.want, x.c))
		refused(t, api.ErrLong, deep(api.MaxStack-x.want+1, x.c))
		made(t, one, lambda([]int{70, 71}, deep(api.MaxStack-x.want-2, x.c)))
		refused(t, api.ErrLong, one, lambda([]int{70, 71}, deep(api.MaxStack-x.want-1, x.c)))
	}
	// A frame of a procedure is another one; slots that are free again do not count.
	made(t, deep(3000, lambda(nil, deep(3000, one))))
	made(t, deep(4000, one), deep(4000, one))
	made(t, sequence(deep(4000, one), deep(4000, one)))
	// A closure's values are pushed, too.
	captures := lambda(nil, sequence(local(0), local(1), local(2)))
	made(t, let([]int{0, 1, 2}, one, one, one, deep(api.MaxStack-6, captures)))
	refused(t, api.ErrLong, let([]int{0, 1, 2}, one, one, one, deep(api.MaxStack-5, captures)))
	// A boxed argument is pushed once more.
	made(t, lambda([]int{0}, setLocal(0, deep(api.MaxStack-3, one))))
	refused(t, api.ErrLong, lambda([]int{0}, setLocal(0, deep(api.MaxStack-2, one))))
	made(t, rec(vars(0, api.MaxStack-2), many(api.MaxStack-1, one)...))
	refused(t, api.ErrLong, rec(vars(0, api.MaxStack-1), many(api.MaxStack, one)...))
	made(t, loop(vars(0, api.MaxStack-1), many(api.MaxStack, one)...))
	refused(t, api.ErrLong, loop(vars(0, api.MaxStack), many(api.MaxStack+1, one)...))
}

// recs is a CRec of so many variables: 6 n + 2 instructions with its OpSlide.
func recs(n, from int) api.Core {
	return rec(vars(from, n), many(n+1, konst(1))...)
}

// P9.1: MaxCode instructions of a proto.
func TestMaxCode(t *testing.T) {
	var cores []api.Core
	for i := range 3 {
		cores = append(cores, recs(3600, 4000*i))
	}
	left := api.MaxCode - 3*(6*3600+3) // behind each form stands one more: OpPop, OpReturn
	if left%2 == 1 {
		cores = append(cores, call(prim("car"), konst(1)))
		left -= 3
	}
	cores = append(cores, many(left/2, konst(1))...)
	if n := len(made(t, cores...)[0].Code); n != api.MaxCode {
		t.Fatalf("%d instructions", n)
	}
	refused(t, api.ErrLong, append(slices.Clone(cores), konst(1))...)
	last := len(cores) - 1
	refused(t, api.ErrLong, append(slices.Clone(cores[:last]), call(prim("car"), konst(1)))...)
	// Each proto has its own.
	made(t, lambda(nil, sequence(recs(3600, 0), recs(3600, 4000))), lambda(nil, recs(3600, 8000)))
	refused(t, api.ErrLong, sequence(recs(3600, 0), recs(3600, 4000), recs(3600, 8000), recs(3600, 12000)))
	refused(t, api.ErrLong, lambda(nil, sequence(recs(3600, 0), recs(3600, 4000), recs(3600, 8000), recs(3600, 12000))))
}

// The OpPops of agains are many, too: that ends in time.
func TestManyPops(t *testing.T) {
	body := again()
	for range 5000 {
		body = choice(konst(1), again(), body)
	}
	refused(t, api.ErrLong, loop(nil, rec(vars(0, 4000), append(many(4000, konst(1)), body)...)))
}

// R2: what ErrArg is told of is told ahead of ErrLong, wherever it stands.
func TestErrorOrder(t *testing.T) {
	one := konst(1)
	wrong := []api.Core{{}, local(7), again(), {Kind: api.CPrim, N: -1}, let([]int{7, 7}, one, one, one), data(nested(200, one.D[0], deepWays()[0]))}
	long := []api.Core{call(many(66, one)...), let(vars(10, 65), many(66, one)...), lambda(vars(10, 65), one), sequence(recs(4000, 100), recs(4000, 5000), recs(4000, 10000))}
	for _, l := range long {
		refused(t, api.ErrLong, l)
		for _, w := range wrong {
			refused(t, api.ErrArg, l, w)
			refused(t, api.ErrArg, w, l)
			refused(t, api.ErrArg, call(l, w))
			refused(t, api.ErrArg, sequence(lambda(nil, l), w))
		}
	}
	refused(t, api.ErrArg, many(api.MaxCore+1, call(many(66, one)...))...)
	refused(t, api.ErrArg, lambda(append(vars(0, 70), 0), one))
}

// R1: forms are in one another at most as often as there may be forms.
func TestDeepForms(t *testing.T) {
	defer debug.SetMaxStack(debug.SetMaxStack(1 << 26))
	one := konst(1)
	v := 0
	next := func() []int { v++; return []int{v} }
	for i, around := range []func(c api.Core) api.Core{
		func(c api.Core) api.Core { return lambda(nil, c) }, func(c api.Core) api.Core { return lambda(next(), c) }, func(c api.Core) api.Core { return define("x", c) }, func(c api.Core) api.Core { return setGlobal("x", c) }, func(c api.Core) api.Core { return let(nil, c) }, func(c api.Core) api.Core { return rec(nil, c) }, func(c api.Core) api.Core { return loop(nil, c) }, func(c api.Core) api.Core { return call(c) }, func(c api.Core) api.Core { return call(prim("car"), c) }, func(c api.Core) api.Core { return sequence(c, one) }, func(c api.Core) api.Core { return sequence(one, c) }, func(c api.Core) api.Core { return choice(c, one, one) }, func(c api.Core) api.Core { return choice(one, c, one) }, func(c api.Core) api.Core { return choice(one, one, c) }, func(c api.Core) api.Core { return let(next(), c, one) },
	} {
		c, size := one, 1
		per := count(around(one)) - 1
		for size+per <= api.MaxCore {
			c, size = around(c), size+per
		}
		if ps, e := emit.Program([]api.Core{c}); e != api.OK || wrongCode(ps) != "" {
			t.Errorf("%d: error %d", i, e)
		}
		for range 20000 {
			c = around(c)
		}
		refused(t, api.ErrArg, c)
	}
}

// count is how many core forms a form has.
func count(c api.Core) int {
	n := 1
	for _, sub := range c.Subs {
		n += count(sub)
	}
	return n
}

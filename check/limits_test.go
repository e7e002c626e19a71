package check_test

import (
	"testing"

	"tandem/api"
)

// The limits, at their edges.

func TestDeepest(t *testing.T) {
	most := repeat(api.MaxStack, "const 0")
	hold(t, []row{
		{most + "return", 0, 0}, {most + "const 0, return", api.MaxStack, api.ErrStack},
		{most + "local 4095", api.MaxStack, api.ErrStack}, {most + "pick 4095", api.MaxStack, api.ErrStack}, {most + "global 0", api.MaxStack, api.ErrStack},
		{most + "closure 0 0", api.MaxStack, api.ErrStack}, {most + "prim 0 0", api.MaxStack, api.ErrStack}, {most + "prim 0 1, return", 0, 0},
		{most + "box, unbox, setglo 0, define 0, loop, call 0, slide 0, setbox, const 0, store 4094, return", 0, 0},
	})
	f := api.Proto{Free: 1, Code: code(repeat(api.MaxStack, "free 0") + "free 0")}
	wants(t, "free", verdict{1, api.MaxStack, api.ErrStack}, plain("const 0, return"), f)
	f = api.Proto{Args: api.MaxArgs, Rest: true, Code: code(repeat(api.MaxStack-api.MaxArgs-1, "local 0") + "local 4095, return")}
	wants(t, "arguments count", verdict{1, api.MaxStack - api.MaxArgs - 1, api.ErrStack}, plain("const 0, return"), f)
}

func TestCounts(t *testing.T) {
	most := repeat(api.MaxArgs+1, "const 0")
	hold(t, []row{
		{most + "call 64, return", 0, 0}, {most + "call 65", 65, api.ErrIndex}, {most + "const 0, call 65", 66, api.ErrIndex},
		{most + "tail 64", 0, 0}, {most + "tail 65", 65, api.ErrIndex}, {most + "const 0, tail 65", 66, api.ErrIndex},
		{repeat(api.MaxStack, "const 0") + "slide 4095, return", 0, 0}, {repeat(api.MaxStack, "const 0") + "slide 4096", api.MaxStack, api.ErrStack}, {repeat(api.MaxStack, "const 0") + "slide 4097", api.MaxStack, api.ErrIndex},
		{"const 0, slide 4096", 1, api.ErrStack}, {"const 0, slide 4097", 1, api.ErrIndex},
		{most + "prim 0 65, return", 0, 0},
	})
	for free := 63; free < 67; free++ {
		for b := 63; b < 67; b++ {
			main := plain(repeat(70, "const 0"))
			main.Code = append(main.Code, api.Ins{Op: api.OpClosure, A: 1, B: b}, api.Ins{Op: api.OpReturn})
			want := verdict{}
			switch {
			case b > api.MaxArgs:
				want = verdict{0, 70, api.ErrIndex}
			case b != free:
				want = verdict{0, 70, api.ErrKind}
			}
			wants(t, "a closure", want, main, api.Proto{Free: free, Code: code("free 62, return")})
		}
	}
	f := api.Proto{Free: api.MaxStack, Code: code("free 4095, return")}
	wants(t, "the last value", verdict{}, plain("const 0, return"), f)
	f.Code = code("free 4096, return")
	wants(t, "a value too far", verdict{1, 0, api.ErrIndex}, plain("const 0, return"), f)
}

func TestLongest(t *testing.T) {
	loops := func(n int) []api.Ins {
		all := make([]api.Ins, n)
		for i := range all {
			all[i].Op = api.OpLoop
		}
		return append(all, code("const 0, return")...)
	}
	most, long := plain(""), plain("")
	most.Code, long.Code = loops(api.MaxCode-2), loops(api.MaxCode-1)
	wants(t, "most", verdict{}, most)
	wants(t, "too long", verdict{0, 0, api.ErrIndex}, long)
	wants(t, "too long behind", verdict{1, 0, api.ErrIndex}, most, long)
	most.Code[api.MaxCode-1] = api.Ins{Op: api.OpBox}
	wants(t, "behind the last one", verdict{0, api.MaxCode - 1, api.ErrJump}, most)
	most.Code[api.MaxCode-1] = api.Ins{Op: api.OpFalse, A: api.MaxCode}
	wants(t, "behind the last one", verdict{0, api.MaxCode - 1, api.ErrJump}, most)
	most.Code[0] = api.Ins{Op: api.OpJump, A: api.MaxCode}
	wants(t, "a jump behind the last one", verdict{0, 0, api.ErrJump}, most)
	most.Code[0], most.Code[api.MaxCode-1] = api.Ins{Op: api.OpJump, A: api.MaxCode - 1}, api.Ins{Op: api.OpJump}
	wants(t, "the last one and back", verdict{}, most)
}

func TestManyProtos(t *testing.T) {
	ps := []api.Proto{plain("closure 70000 0, return")}
	for range 70000 {
		ps = append(ps, plain("const 0, return"))
	}
	if got := judged(ps...); got != (verdict{}) {
		t.Errorf("%+v", got)
	}
	ps[70000].Args = -1
	if got := judged(ps...); got != (verdict{70000, 0, api.ErrIndex}) {
		t.Errorf("%+v", got)
	}
	if got := judged(ps[:70000]...); got != (verdict{0, 0, api.ErrIndex}) {
		t.Errorf("%+v", got)
	}
}

// zigzag is code, of an even number of instructions, that goes from its beginning to its end, to and fro, and comes to each of them.
func zigzag(n int) []api.Ins {
	all := make([]api.Ins, n)
	for i := range all {
		to := n - 1 - i
		if i >= n/2 {
			to = n - i
		}
		all[i] = api.Ins{Op: api.OpJump, A: to}
	}
	return all
}

// R1: code that goes to and fro, and code of which much is to be looked at at once, are gone through soon.
func TestLongWays(t *testing.T) {
	fan := make([]api.Ins, api.MaxCode)
	for i := range api.MaxCode / 4 {
		fan[2*i] = api.Ins{Op: api.OpConst}
		fan[2*i+1] = api.Ins{Op: api.OpFalse, A: api.MaxCode/2 + i*7919%(api.MaxCode/4)}
	}
	for i := api.MaxCode / 2; i < api.MaxCode; i++ {
		fan[i] = api.Ins{Op: api.OpJump, A: i}
	}
	for range 10 {
		wants(t, "zigzag", verdict{}, api.Proto{Code: zigzag(api.MaxCode)}, api.Proto{Code: zigzag(api.MaxCode), Args: 3})
		wants(t, "fan", verdict{}, api.Proto{Code: fan, Consts: voids(1)})
	}
}

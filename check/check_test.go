package check_test

import (
	"math"
	"testing"

	"tandem/api"
)

// row is a text of code, of one proto with two constants and two names, and what is told of it.
type row struct {
	text string
	pc   int
	e    api.Errno
}

func hold(t *testing.T, rows []row) {
	t.Helper()
	for _, r := range rows {
		wants(t, r.text, verdict{0, r.pc, r.e}, plain(r.text))
	}
}

func TestExamples(t *testing.T) {
	wants(t, "OpReturn", verdict{0, 0, api.ErrStack}, api.Proto{Code: code("return")})
	wants(t, "OpConst, OpReturn", verdict{0, 0, api.ErrIndex}, api.Proto{Code: code("const 0, return")})
	wants(t, "OpJump 5", verdict{0, 0, api.ErrJump}, api.Proto{Code: code("jump 5")})
	wants(t, "none", verdict{0, 0, api.ErrCode})
}

// P11.1: each instruction with all that it wants, and with one value less.
func TestWants(t *testing.T) {
	hold(t, []row{
		{"const 0, return", 0, 0}, {"return", 0, api.ErrStack},
		{"const 0, local 0, slide 1, return", 0, 0},
		{"const 0, pick 0, slide 1, return", 0, 0},
		{"global 0, return", 0, 0},
		{"const 0, setglo 0, return", 0, 0}, {"setglo 0", 0, api.ErrStack},
		{"const 0, define 0, return", 0, 0}, {"define 0", 0, api.ErrStack},
		{"const 0, box, return", 0, 0}, {"box", 0, api.ErrStack},
		{"const 0, unbox, return", 0, 0}, {"unbox", 0, api.ErrStack},
		{"const 0, const 0, setbox, return", 0, 0}, {"const 0, setbox", 1, api.ErrStack},
		{"closure 0 0, return", 0, 0},
		{"const 0, call 0, return", 0, 0}, {"call 0", 0, api.ErrStack},
		{"const 0, const 0, const 0, call 2, return", 0, 0}, {"const 0, const 0, call 2", 2, api.ErrStack},
		{"const 0, tail 0", 0, 0}, {"tail 0", 0, api.ErrStack},
		{"const 0, const 0, const 0, tail 2", 0, 0}, {"const 0, const 0, tail 2", 2, api.ErrStack},
		{"jump 0", 0, 0},
		{"const 0, false 2, const 0, return", 0, 0}, {"false 0", 0, api.ErrStack},
		{"prim 0 0, return", 0, 0},
		{"const 0, const 0, prim 0 2, return", 0, 0}, {"const 0, prim 0 2", 1, api.ErrStack},
		{"const 0, const 0, pop, return", 0, 0}, {"pop", 0, api.ErrStack},
		{"const 0, slide 0, return", 0, 0}, {"slide 0", 0, api.ErrStack},
		{"const 0, const 0, const 0, slide 2, return", 0, 0}, {"const 0, const 0, slide 2", 2, api.ErrStack},
		{"const 0, const 0, store 0, return", 0, 0}, {"store 0", 0, api.ErrStack},
		{"loop, const 0, return", 0, 0}, {"loop, return", 1, api.ErrStack},
	})
}

// P11.1: each instruction leaves as much as it should: one return more than there are values is too many.
func TestLeaves(t *testing.T) {
	hold(t, []row{
		{"const 0, pop, return", 2, api.ErrStack},
		{"const 0, local 0, pop, pop, pop", 4, api.ErrStack}, {"const 0, pick 0, pop, pop, pop", 4, api.ErrStack},
		{"global 1, pop, pop", 2, api.ErrStack},
		{"const 0, setglo 0, pop, pop", 3, api.ErrStack}, {"const 0, define 0, pop, pop", 3, api.ErrStack},
		{"const 0, box, pop, pop", 3, api.ErrStack}, {"const 0, unbox, pop, pop", 3, api.ErrStack},
		{"const 0, const 0, setbox, pop, pop", 4, api.ErrStack},
		{"closure 0 0, pop, pop", 2, api.ErrStack},
		{"const 0, call 0, pop, pop", 3, api.ErrStack}, {"const 0, const 0, call 1, pop, pop", 4, api.ErrStack},
		{"const 0, false 2, pop", 2, api.ErrStack}, {"const 0, const 0, false 3, pop, pop", 4, api.ErrStack},
		{"prim 0 0, pop, pop", 2, api.ErrStack}, {"const 0, const 0, const 0, prim 0 3, pop, pop", 5, api.ErrStack},
		{"const 0, const 0, slide 1, pop, pop", 4, api.ErrStack}, {"const 0, slide 0, pop, pop", 3, api.ErrStack},
		{"const 0, const 0, store 0, pop, pop", 4, api.ErrStack},
		{"loop, pop", 1, api.ErrStack}, {"const 0, jump 2, pop, pop", 3, api.ErrStack},
	})
}

// P11.1: what is no instruction, and operands that must be 0.
func TestWrongCode(t *testing.T) {
	hold(t, []row{
		{"0", 0, api.ErrCode}, {"-1", 0, api.ErrCode}, {"22", 0, api.ErrCode}, {"const 0, 23 1 1", 1, api.ErrCode},
		{"9223372036854775807", 0, api.ErrCode}, {"-9223372036854775808", 0, api.ErrCode},
	})
	for op, w := range words()[1:] {
		operands := int(w[len(w)-1] - '0')
		for _, n := range []int{1, -1, math.MaxInt, math.MinInt} {
			for nth, i := range []api.Ins{{Op: op + 1, A: n}, {Op: op + 1, B: n}} {
				if nth < operands {
					continue
				}
				p := plain(repeat(3, "const 0"))
				p.Code = append(p.Code, i)
				wants(t, w, verdict{0, 3, api.ErrCode}, p)
				p.Code = []api.Ins{i} // ahead of what it wants
				wants(t, w, verdict{0, 0, api.ErrCode}, p)
			}
		}
	}
}

// P11.1: numbers of what is there, and of what is not.
func TestIndices(t *testing.T) {
	hold(t, []row{
		{"const 1, return", 0, 0}, {"const 2", 0, api.ErrIndex}, {"const -1", 0, api.ErrIndex},
		{"global 1, return", 0, 0}, {"global 2", 0, api.ErrIndex}, {"global -1", 0, api.ErrIndex},
		{"const 0, setglo 1, return", 0, 0}, {"const 0, setglo 2", 1, api.ErrIndex}, {"const 0, setglo -1", 1, api.ErrIndex},
		{"const 0, define 1, return", 0, 0}, {"const 0, define 2", 1, api.ErrIndex}, {"const 0, define -1", 1, api.ErrIndex},
		{"free 0", 0, api.ErrIndex}, {"free -1", 0, api.ErrIndex},
		{"local 0", 0, api.ErrIndex}, {"const 0, local 0, tail 1", 0, 0}, {"const 0, local 1", 1, api.ErrIndex}, {"const 0, local -1", 1, api.ErrIndex},
		{"pick 0", 0, api.ErrIndex}, {"const 0, pick 0, tail 1", 0, 0}, {"const 0, pick 1", 1, api.ErrIndex}, {"const 0, pick -1", 1, api.ErrIndex},
		{"const 0, store 0", 1, api.ErrIndex}, {"const 0, const 0, store 1", 2, api.ErrIndex}, {"const 0, const 0, store -1", 2, api.ErrIndex},
		{"const 0, const 0, const 0, store 1, tail 1", 0, 0}, {"const 0, const 0, const 0, store 2", 3, api.ErrIndex},
		{"closure 1 0", 0, api.ErrIndex}, {"closure -1 0", 0, api.ErrIndex}, {"closure 0 -1", 0, api.ErrIndex}, {"closure 0 65", 0, api.ErrIndex},
		{"const 0, call -1", 1, api.ErrIndex}, {"const 0, tail -1", 1, api.ErrIndex}, {"const 0, slide -1", 1, api.ErrIndex},
		{"prim 92 1", 0, api.ErrIndex}, {"prim -1 1", 0, api.ErrIndex},
		{"const 9223372036854775807", 0, api.ErrIndex}, {"const 0, local 9223372036854775807", 1, api.ErrIndex},
		{"const 0, const 0, store -9223372036854775808", 2, api.ErrIndex}, {"const 0, call -9223372036854775808", 1, api.ErrIndex},
		{"const 0, call 9223372036854775807", 1, api.ErrIndex}, {"const 0, slide 9223372036854775807", 1, api.ErrIndex},
	})
	for free := range 3 {
		f := api.Proto{Free: free, Code: code("free 1, return")}
		want := verdict{1, 0, api.ErrIndex}
		if free > 1 {
			want = verdict{}
		}
		wants(t, "values of a closure", want, plain("const 0, return"), f)
	}
}

// P11.1: primitives that take other numbers of arguments, or that the machine does.
func TestPrimitives(t *testing.T) {
	prims := api.Prims()
	for n, p := range prims {
		for b := -1; b < 6; b++ {
			main := plain(repeat(5, "const 0"))
			main.Code = append(main.Code, api.Ins{Op: api.OpPrim, A: n, B: b}, api.Ins{Op: api.OpReturn})
			want := verdict{}
			if n >= len(prims)-7 || b < p.Least || b > p.Most && p.Most >= 0 {
				want = verdict{0, 5, api.ErrKind}
			}
			wants(t, p.Name, want, main)
		}
	}
	hold(t, []row{
		{"prim 84 0, return", 0, 0}, {"const 0, const 0, prim 85 2", 2, api.ErrKind}, {"prim 91 1", 0, api.ErrKind},
		{"prim 38 -9223372036854775808", 0, api.ErrKind}, {"prim 38 9223372036854775807", 0, api.ErrKind},
		{"prim 0 -9223372036854775808", 0, api.ErrKind}, {"prim 0 9223372036854775807", 0, api.ErrStack},
		{repeat(1000, "const 0") + "prim 0 1000, return", 0, 0}, {repeat(1000, "const 0") + "prim 0 1001", 1000, api.ErrStack},
	})
}

// P11.1: OpClosure's B is what its proto's Free is.
func TestClosures(t *testing.T) {
	for free := range 4 {
		for b := range 4 {
			main := plain(repeat(3, "const 0"))
			main.Code = append(main.Code, api.Ins{Op: api.OpClosure, A: 1, B: b}, api.Ins{Op: api.OpReturn})
			want := verdict{}
			if free != b {
				want = verdict{0, 3, api.ErrKind}
			}
			wants(t, "a closure", want, main, api.Proto{Free: free, Args: 1, Code: code("local 0, return")})
		}
	}
	wants(t, "of what is not there", verdict{0, 0, api.ErrStack}, plain("closure 1 1"), api.Proto{Free: 1, Code: code("free 0, return")})
	wants(t, "of itself", verdict{}, plain("closure 1 0, return"), api.Proto{Free: 0, Code: code("closure 1 0, tail 0")})
}

// P11.1: where instructions go.
func TestJumps(t *testing.T) {
	hold(t, []row{
		{"jump 1", 0, api.ErrJump}, {"jump -1", 0, api.ErrJump}, {"jump 9223372036854775807", 0, api.ErrJump}, {"jump -9223372036854775808", 0, api.ErrJump},
		{"const 0, jump 2, return", 0, 0}, {"const 0, jump 3, return", 1, api.ErrJump},
		{"const 0, false 3, jump 2, jump 3", 0, 0}, {"const 0, false 4, jump 2, jump 3", 1, api.ErrJump}, {"const 0, false -1, jump 2, jump 3", 1, api.ErrJump},
		{"const 0, false 0", 1, api.ErrJump}, {"const 0", 0, api.ErrJump}, {"loop", 0, api.ErrJump},
		{"const 0, pop", 1, api.ErrJump}, {"const 0, slide 0", 1, api.ErrJump}, {"const 0, call 0", 1, api.ErrJump}, {"const 0, box", 1, api.ErrJump}, {"prim 0 0", 0, api.ErrJump}, {"closure 0 0", 0, api.ErrJump},
		{"const 0, jump 2", 1, api.ErrJump}, {"jump 2, return, const 0", 2, api.ErrJump},
	})
}

// P11.1: a depth that parts from the one that was found ahead.
func TestDepthsThatPart(t *testing.T) {
	hold(t, []row{
		{"const 0, jump 0", 1, api.ErrStack}, {"const 0, const 0, jump 1", 2, api.ErrStack}, {"const 0, pop, jump 0", 0, 0}, {"const 0, pop, jump 1", 2, api.ErrStack},
		{"const 0, false 0, const 0, return", 0, 0}, {"const 0, false 1, const 0, return", 1, api.ErrStack},
		{"const 0, false 4, const 0, const 0, loop, return", 3, api.ErrStack}, {"const 0, false 3, const 0, const 0, return", 2, api.ErrStack},
		{"const 0, false 4, const 0, jump 5, const 0, return", 0, 0}, {"const 0, false 4, const 0, jump 4, const 0, return", 3, api.ErrStack},
		{"const 0, false 4, const 0, jump 6, const 0, const 0, return", 5, api.ErrStack},
		{"jump 3, const 0, return, jump 1", 0, 0}, {"jump 3, const 0, jump 3, jump 1", 2, api.ErrStack},
	})
}

// P11.1: instructions that are not reached may be anything.
func TestUnreached(t *testing.T) {
	hold(t, []row{
		{"const 0, return, 99 9 9", 0, 0}, {"const 0, tail 0, pop", 0, 0}, {"jump 0, pop", 0, 0}, {"jump 2, 0, const 0, return, jump 77", 0, 0},
		{"const 0, return, const 7, free 1, closure 9 9, prim 38 7, store 5, jump -1", 0, 0},
	})
}

// P11.1: what stands ahead of the instructions.
func TestHeads(t *testing.T) {
	body := code("prim 0 0, return")
	for _, x := range []struct {
		what string
		p    api.Proto
		main bool // may it be proto 0?
		ok   bool // may it be another one?
	}{
		{"nothing", api.Proto{}, false, false},
		{"code", api.Proto{Code: body}, true, true},
		{"a name", api.Proto{Code: body, Name: "f", Consts: voids(3), Names: []string{""}}, true, true},
		{"an argument", api.Proto{Code: body, Args: 1}, false, true},
		{"a rest", api.Proto{Code: body, Rest: true}, false, true},
		{"a value", api.Proto{Code: body, Free: 1}, false, true},
		{"most arguments", api.Proto{Code: body, Args: api.MaxArgs, Rest: true}, false, true},
		{"too many arguments", api.Proto{Code: body, Args: api.MaxArgs + 1}, false, false},
		{"fewer arguments than none", api.Proto{Code: body, Args: -1}, false, false},
		{"most values", api.Proto{Code: body, Free: api.MaxStack}, false, true},
		{"too many values", api.Proto{Code: body, Free: api.MaxStack + 1}, false, false},
		{"fewer values than none", api.Proto{Code: body, Free: -1}, false, false},
		{"the greatest number of arguments", api.Proto{Code: body, Args: math.MaxInt, Rest: true}, false, false},
		{"the least number of values", api.Proto{Code: body, Free: math.MinInt}, false, false},
		{"wrong code too", api.Proto{Code: code("0 1 1"), Args: 65}, false, false},
	} {
		wrong := func(is bool, n int) verdict {
			if is {
				return verdict{}
			}
			return verdict{n, 0, api.ErrIndex}
		}
		wants(t, x.what, wrong(x.main, 0), x.p)
		wants(t, x.what+" behind", wrong(x.ok, 1), plain("const 0, return"), x.p)
		wants(t, x.what+" between", wrong(x.ok, 2), plain("const 0, return"), plain("loop, const 1, return"), x.p, plain("const 0, return"))
	}
}

// P11.1: a proto begins with its arguments.
func TestArguments(t *testing.T) {
	for args := range api.MaxArgs + 1 {
		for _, rest := range []bool{false, true} {
			depth := args
			if rest {
				depth++
			}
			f := api.Proto{Args: args, Rest: rest, Code: code(repeat(depth, "pop") + "closure 0 0, return")}
			wants(t, "pops", verdict{}, plain("const 0, return"), f)
			f.Code = code(repeat(depth+1, "pop"))
			wants(t, "one too many", verdict{1, depth, api.ErrStack}, plain("const 0, return"), f)
		}
	}
}

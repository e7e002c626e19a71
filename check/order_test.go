package check_test

import (
	"strconv"
	"testing"

	"tandem/api"
)

// P11.1, R2: which of several errors is told.

// Of one instruction: its own operands, then its wants, its slot, too deep, then where it goes.
func TestOrderInAnInstruction(t *testing.T) {
	most := repeat(api.MaxStack, "const 0")
	hold(t, []row{
		{"const 9 1", 0, api.ErrCode}, {"call 65 1", 0, api.ErrCode}, {"slide 4097 1", 0, api.ErrCode}, {"setglo 9 1", 0, api.ErrCode}, {"store 0 1", 0, api.ErrCode}, {"jump 9 1", 0, api.ErrCode}, {"return 1 0", 0, api.ErrCode}, {"tail 99 1", 0, api.ErrCode}, {"pop 0 1", 0, api.ErrCode}, {"false 9 9", 0, api.ErrCode},
		{"setglo 9", 0, api.ErrIndex}, {"define 9", 0, api.ErrIndex}, {"call 65", 0, api.ErrIndex}, {"tail 65", 0, api.ErrIndex}, {"slide 4097", 0, api.ErrIndex},
		{"closure 9 1", 0, api.ErrIndex}, {"closure 0 65", 0, api.ErrIndex}, {"closure 9 65", 0, api.ErrIndex}, {"closure 0 1", 0, api.ErrKind},
		{"prim 92 -1", 0, api.ErrIndex}, {"prim 38 2", 0, api.ErrKind}, {"prim 91 0", 0, api.ErrKind}, {"prim 86 1", 0, api.ErrKind},
		{"store 5", 0, api.ErrStack}, {"store -1", 0, api.ErrStack}, {"const 0, store 5", 1, api.ErrIndex}, {"const 0, store 0", 1, api.ErrIndex},
		{"local 0", 0, api.ErrIndex}, {most + "local 4096", api.MaxStack, api.ErrIndex}, {most + "pick -1", api.MaxStack, api.ErrIndex}, {most + "const 9", api.MaxStack, api.ErrIndex},
		{most + "const 0", api.MaxStack, api.ErrStack}, {most + "pick 0", api.MaxStack, api.ErrStack},
		{"pop", 0, api.ErrStack}, {"false 9", 0, api.ErrStack}, {"false -1", 0, api.ErrStack}, {"prim 38 1", 0, api.ErrStack},
	})
}

// Of where it goes: what goes out of the code, whichever way it is, then the depths there.
func TestOrderOfWays(t *testing.T) {
	hold(t, []row{
		// An OpFalse whose next instruction was found ahead, with the same depth, and with another one.
		{"const 0, false 5, const 0, loop, false 99, jump 5", 4, api.ErrJump},
		{"const 0, false 6, const 0, const 0, loop, false 99, jump 6", 5, api.ErrJump},
		{"const 0, false 6, const 0, const 0, loop, false 7, jump 6", 5, api.ErrJump},
		{"const 0, false 6, const 0, const 0, loop, false -1, jump 6", 5, api.ErrJump},
		{"const 0, false 6, const 0, const 0, loop, false 0, jump 6", 5, api.ErrStack},
		{"const 0, false 6, const 0, const 0, loop, false 6, jump 6", 5, api.ErrStack},
		// Whose A was found ahead, with another depth, and whose next one is not there, or not yet found.
		{"const 0, const 0, false 0", 2, api.ErrJump},
		{"const 0, const 0, false 0, jump 3", 2, api.ErrStack},
		{"const 0, const 0, false 99, jump 3", 2, api.ErrJump},
		// Neither is there.
		{"const 0, false 2", 1, api.ErrJump},
		{"const 0, false -1", 1, api.ErrJump},
	})
}

// Of several protos the first one, its head ahead of its instructions.
func TestOrderOfProtos(t *testing.T) {
	right, head, stack := plain("const 0, return"), api.Proto{Args: -1, Code: code("return")}, plain("loop, return")
	wants(t, "a head behind", verdict{0, 1, api.ErrStack}, stack, head)
	wants(t, "a head ahead", verdict{1, 0, api.ErrIndex}, right, head, stack)
	wants(t, "two heads", verdict{1, 0, api.ErrIndex}, right, head, head)
	wants(t, "code ahead", verdict{1, 1, api.ErrStack}, right, stack, head)
	wants(t, "the first proto's head", verdict{0, 0, api.ErrIndex}, head, stack)
	rest := plain("99")
	rest.Rest = true
	wants(t, "the first proto's rest", verdict{0, 0, api.ErrIndex}, rest)
	wants(t, "a closure of a wrong head", verdict{0, 0, api.ErrKind}, plain("closure 1 0"), api.Proto{Free: -1})
	wants(t, "a closure of another wrong head", verdict{1, 0, api.ErrIndex}, plain("closure 1 0, return"), api.Proto{Args: 65, Code: code("local 0, return")})
}

// Of several instructions the least place that is to be looked at.
func TestOrderOfPlaces(t *testing.T) {
	hold(t, []row{
		{"const 0, false 3, pop, 99", 2, api.ErrStack},   // the next one is less than A
		{"const 0, false 3, jump 2, 99", 3, api.ErrCode}, // then A
		{"jump 3, pop, 99, jump 2", 2, api.ErrCode},      // back
		{"jump 4, pop, jump 2, 99, const 0, false 2, pop", 6, api.ErrStack},
		{"jump 3, 99, pop, const 0, false 1, pop", 1, api.ErrCode}, // what is back ahead of the next one
		{"jump 5, const 0, false 4, jump 3, 99, jump 1", 4, api.ErrCode},
		{"jump 7, const 0, false 5, jump 3, 99, pop, 98, const 0, false 1, pop", 5, api.ErrStack}, // all behind it, ahead of what was found first
		{"const 0, false 4, const 0, jump 6, const 0, const 0, return", 5, api.ErrStack},          // the depth that came first is the one that stands
	})
}

// Places come off the list in their order, however they were put there: with all but the least k wrong, it is the next one that is told.
func TestManyPlaces(t *testing.T) {
	d := dice(5)
	for n := 1; n < 70; n += 1 + n/9 {
		targets := make([]int, n)
		for i := range targets {
			targets[i] = 2*n + 1 + i
		}
		for i := range targets {
			j := d.below(i + 1)
			targets[i], targets[j] = targets[j], targets[i]
		}
		text := ""
		for _, to := range targets {
			text += "const 0, false " + strconv.Itoa(to) + ", "
		}
		text += "jump " + strconv.Itoa(2*n) + ", "
		for k := range n + 1 {
			p := plain(text)
			for i := range n {
				place := 2*n + 1 + i
				p.Code = append(p.Code, api.Ins{Op: api.OpJump, A: place})
				if i >= k {
					p.Code[place].A = -1
				}
			}
			want := verdict{0, 2*n + 1 + k, api.ErrJump}
			if k == n {
				want = verdict{}
			}
			wants(t, "of "+strconv.Itoa(n), want, p)
		}
	}
}

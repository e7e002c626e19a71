package num_test

import (
	"math"
	"slices"
	"testing"

	"tandem/api"
	"tandem/num"
)

const mark = 0xabadcafe

// roomy is a number whose list has spare room that is marked.
func roomy(neg bool, mag ...uint32) api.Num {
	room := append(slices.Clone(mag), mark, mark, mark, mark)
	return api.Num{Neg: neg, Mag: room[:len(mag):len(room)]}
}

// whole is a number's list with its spare room.
func whole(a api.Num) limbs { return a.Mag[:cap(a.Mag)] }

// calls are all calls that take numbers, and the numbers that they answer.
func calls() []func(a, b api.Num) []api.Num {
	return []func(a, b api.Num) []api.Num{
		func(a, b api.Num) []api.Num { num.Small(a); return nil },
		func(a, b api.Num) []api.Num { return []api.Num{num.Add(a)} },
		func(a, b api.Num) []api.Num { return []api.Num{num.Add(a, b)} },
		func(a, b api.Num) []api.Num { return []api.Num{num.Add(a, b, a, b)} },
		func(a, b api.Num) []api.Num { return []api.Num{num.Sub(a, b)} },
		func(a, b api.Num) []api.Num { return []api.Num{num.Mul(a)} },
		func(a, b api.Num) []api.Num { return []api.Num{num.Mul(a, b)} },
		func(a, b api.Num) []api.Num { return []api.Num{num.Mul(a, b, b, a, b)} },
		func(a, b api.Num) []api.Num { return []api.Num{num.Neg(a)} },
		func(a, b api.Num) []api.Num { num.Cmp(a, b); return nil },
		func(a, b api.Num) []api.Num { q, r, _ := num.Truncate(a, b); return []api.Num{q, r} },
		func(a, b api.Num) []api.Num { q, r, _ := num.Floor(a, b); return []api.Num{q, r} },
		func(a, b api.Num) []api.Num { return []api.Num{num.Gcd(a)} },
		func(a, b api.Num) []api.Num { return []api.Num{num.Gcd(a, b)} },
		func(a, b api.Num) []api.Num { return []api.Num{num.Gcd(b, a, b)} },
		func(a, b api.Num) []api.Num { p, _ := num.Power(a, 1, 1000); return []api.Num{p} },
		func(a, b api.Num) []api.Num { p, _ := num.Power(a, 5, 1000); return []api.Num{p} },
		func(a, b api.Num) []api.Num { num.Text(a); return nil },
	}
}

// handed are numbers of every turn that a call may take.
func handed() []api.Num {
	return []api.Num{{}, {Neg: true}, roomy(false), roomy(true, 0), roomy(false, 1), roomy(true, 1, 0), roomy(false, 7), roomy(true, 7), roomy(true, 12), roomy(false, top, 0, 0), roomy(true, 0, 1), roomy(false, 3, 0, 1<<31, 0), roomy(true, top, top, top)}
}

// every asks each call of each pair.
func every(each func(i int, call func(a, b api.Num) []api.Num, a, b api.Num)) {
	for i, call := range calls() {
		for _, a := range handed() {
			for _, b := range handed() {
				each(i, call, a, b)
			}
		}
	}
}

// R3: lists that are handed in are not changed, spare room included.
func TestArgumentsStay(t *testing.T) {
	every(func(i int, call func(a, b api.Num) []api.Num, a, b api.Num) {
		wasA, wasB := slices.Clone(whole(a)), slices.Clone(whole(b))
		call(a, b)
		if !slices.Equal(whole(a), wasA) || !slices.Equal(whole(b), wasB) {
			t.Fatalf("call %d turned %v, %v into %v, %v", i, wasA, wasB, whole(a), whole(b))
		}
	})
}

// R3: the list of the numbers is not changed either.
func TestListOfNumbersStays(t *testing.T) {
	for _, call := range []func(a ...api.Num) api.Num{num.Add, num.Mul, num.Gcd} {
		room := []api.Num{num.Of(-2), {Neg: true, Mag: limbs{0, 0}}, {Mag: limbs{3, 0}}, num.Of(9), num.Of(9)}
		was := slices.Clone(room)
		call(room[:3]...)
		if !slices.EqualFunc(room, was, same) {
			t.Fatalf("turned into %v", room)
		}
	}
}

// R3: an answer, its spare room too, shares nothing with an argument or with the other answer; no argument is kept.
func TestAnswersAreNew(t *testing.T) {
	every(func(i int, call func(a, b api.Num) []api.Num, a, b api.Num) {
		wasA, wasB := slices.Clone(whole(a)), slices.Clone(whole(b))
		out := call(a, b)
		for k := range out {
			was := make([]limbs, len(out))
			for j := range out {
				was[j] = slices.Clone(whole(out[j]))
			}
			for j := range whole(out[k]) {
				whole(out[k])[j] ^= mark
			}
			if !slices.Equal(whole(a), wasA) || !slices.Equal(whole(b), wasB) {
				t.Fatalf("call %d answers memory of an argument: %v, %v", i, wasA, wasB)
			}
			for j := range out {
				if j != k && !slices.Equal(whole(out[j]), was[j]) {
					t.Fatalf("call %d answers two lists that share memory: %v, %v", i, a, b)
				}
			}
		}
	})
}

// R3, R4: what was done with an answer is not seen by a later call.
func TestAnswersHangOnArguments(t *testing.T) {
	every(func(i int, call func(a, b api.Num) []api.Num, a, b api.Num) {
		first := call(a, b)
		var was []api.Num
		for _, n := range first {
			was = append(was, api.Num{Neg: n.Neg, Mag: slices.Clone(n.Mag)})
			for j := range whole(n) {
				whole(n)[j] = mark
			}
		}
		if !slices.EqualFunc(call(a, b), was, same) {
			t.Fatalf("call %d: unlike answers of %v, %v", i, a, b)
		}
	})
}

// Every answer is canonical, whatever was handed in.
func TestAnswersAreCanonical(t *testing.T) {
	every(func(i int, call func(a, b api.Num) []api.Num, a, b api.Num) {
		for _, n := range call(a, b) {
			if end := len(n.Mag); end == 0 && n.Neg || end > 0 && n.Mag[end-1] == 0 {
				t.Fatalf("call %d of %v, %v: %v", i, a, b, n)
			}
		}
	})
}

// R3: two numbers that are handed in may be one, and may share memory.
func TestSharedArguments(t *testing.T) {
	room := limbs{5, top, 1 << 31, 7, 1}
	for i := range len(room) {
		holdPair(t, api.Num{Mag: room}, api.Num{Neg: true, Mag: room[i:]})
		holdPair(t, api.Num{Neg: true, Mag: room}, api.Num{Mag: room[:i]})
	}
}

// R1: every call ends, and none panics: long numbers, with limbs 0 alone, too.
func TestLongOnes(t *testing.T) {
	for _, limb := range []uint32{0, 1, top} {
		long := api.Num{Neg: true, Mag: slices.Repeat(limbs{limb}, 2000)}
		holdPair(t, long, api.Num{Mag: long.Mag[:900]})
		holdPair(t, num.Of(math.MinInt64), long)
		holdOne(t, long)
	}
}

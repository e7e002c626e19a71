package nat_test

import (
	"slices"
	"strings"
	"testing"

	"tandem/nat"
)

const mark = 0xabadcafe

// roomy is a list with spare room that is marked.
func roomy(a ...uint32) limbs {
	room := append(slices.Clone(a), mark, mark, mark, mark)
	return room[:len(a):len(room)]
}

// whole is a list with its spare room.
func whole(a limbs) limbs { return a[:cap(a)] }

// calls are all calls that take lists, and the lists that they answer.
func calls() []func(a, b limbs) []limbs {
	return []func(a, b limbs) []limbs{
		func(a, b limbs) []limbs { return []limbs{nat.Add(a, b)} },
		func(a, b limbs) []limbs { return []limbs{nat.Add(a, b, a, b)} },
		func(a, b limbs) []limbs { return []limbs{nat.Mul(a, b)} },
		func(a, b limbs) []limbs { return []limbs{nat.Mul(a, b, b, a, b)} },
		func(a, b limbs) []limbs { d, _ := nat.Sub(a, b); return []limbs{d} },
		func(a, b limbs) []limbs { q, r, _ := nat.Div(a, b); return []limbs{q, r} },
		func(a, b limbs) []limbs { nat.Cmp(a, b); return nil },
		func(a, b limbs) []limbs { nat.Bits(a); return nil },
		func(a, b limbs) []limbs { nat.Text(a); return nil },
	}
}

// handed are lists of every turn that a call may take: 0, 1, one limb, many, limbs 0 at the end.
func handed() []limbs {
	return []limbs{nil, roomy(), roomy(0), roomy(1), roomy(7), roomy(top, 0, 0), roomy(0, 1), roomy(0, 0, 1<<31), roomy(3, 0, 1<<31, 0), roomy(1, 0, 1<<29), roomy(top, top, top, top)}
}

// R3: lists that are handed in are not changed, spare room included.
func TestArgumentsStay(t *testing.T) {
	for i, call := range calls() {
		for _, a := range handed() {
			for _, b := range handed() {
				wasA, wasB := slices.Clone(whole(a)), slices.Clone(whole(b))
				call(a, b)
				if !slices.Equal(whole(a), wasA) || !slices.Equal(whole(b), wasB) {
					t.Fatalf("call %d turned %v, %v into %v, %v", i, wasA, wasB, whole(a), whole(b))
				}
			}
		}
	}
}

// R3: the list of the further numbers is not changed either.
func TestListOfListsStays(t *testing.T) {
	spare := limbs{9, 9}
	room := []limbs{{2}, {3, 0}, {0, 1}, spare, spare}
	for _, call := range []func(a, b limbs, more ...limbs) limbs{nat.Add, nat.Mul} {
		call(limbs{4}, limbs{5}, room[:3]...)
		want := []limbs{{2}, {3, 0}, {0, 1}, {9, 9}, {9, 9}}
		if !slices.EqualFunc(room, want, slices.Equal[limbs]) {
			t.Fatalf("turned into %v", room)
		}
	}
}

// R3: an answer, its spare room too, shares nothing with an argument or with the other answer; no argument is kept.
func TestAnswersAreNew(t *testing.T) {
	for i, call := range calls() {
		for _, a := range handed() {
			for _, b := range handed() {
				wasA, wasB := slices.Clone(whole(a)), slices.Clone(whole(b))
				out := call(a, b)
				for k, list := range out {
					var others []limbs
					for j, other := range out {
						if j != k {
							others = append(others, slices.Clone(whole(other)))
						}
					}
					for j := range whole(list) {
						whole(list)[j] ^= mark
					}
					if !slices.Equal(whole(a), wasA) || !slices.Equal(whole(b), wasB) {
						t.Fatalf("call %d answers memory of an argument: %v, %v", i, wasA, wasB)
					}
					for j, other := range slices.Delete(slices.Clone(out), k, k+1) {
						if !slices.Equal(whole(other), others[j]) {
							t.Fatalf("call %d answers two lists that share memory: %v, %v", i, a, b)
						}
					}
				}
			}
		}
	}
}

// R3, R4: what was done with an answer is not seen by a later call.
func TestAnswersHangOnArguments(t *testing.T) {
	for i, call := range calls() {
		for _, a := range handed() {
			for _, b := range handed() {
				first := call(a, b)
				var was []limbs
				for _, list := range first {
					was = append(was, slices.Clone(list))
					for j := range whole(list) {
						whole(list)[j] = mark
					}
				}
				if !slices.EqualFunc(call(a, b), was, slices.Equal[limbs]) {
					t.Fatalf("call %d: unlike answers of %v, %v", i, a, b)
				}
			}
		}
	}
}

// R3: nil and an empty list are one.
func TestNilIsEmpty(t *testing.T) {
	for i, call := range calls() {
		for _, a := range handed() {
			if !slices.EqualFunc(call(a, nil), call(a, limbs{}), slices.Equal[limbs]) || !slices.EqualFunc(call(nil, a), call(limbs{}, a), slices.Equal[limbs]) {
				t.Errorf("call %d parts nil from an empty list, beside %v", i, a)
			}
		}
	}
}

// R3: two lists that are handed in may be one, and may share memory.
func TestSharedArguments(t *testing.T) {
	room := limbs{5, top, 1 << 31, 7, 1}
	for i := range len(room) {
		holdPair(t, room, room[i:])
		holdPair(t, room, room[:i])
		holdPair(t, room[:i], room[i:])
	}
	holdPair(t, room, room)
}

// R2: with a false every other result is its zero value.
func TestFalseBringsNothing(t *testing.T) {
	if d, ok := nat.Sub(limbs{5, 5}, limbs{6, 6, 6}); ok || len(d) != 0 {
		t.Errorf("Sub: %v, %v", d, ok)
	}
	if q, r, ok := nat.Div(limbs{5, 5}, limbs{0, 0}); ok || len(q) != 0 || len(r) != 0 {
		t.Errorf("Div: %v, %v, %v", q, r, ok)
	}
	if a, ok := nat.Parse("123456789012345678901234567890x"); ok || len(a) != 0 {
		t.Errorf("Parse: %v, %v", a, ok)
	}
}

// R1: every call ends, and none panics: long lists, of one kind of limb alone, and long texts.
func TestLongOnes(t *testing.T) {
	for _, limb := range []uint32{0, 1, 1 << 31, top} {
		long := slices.Repeat(limbs{limb}, 3000)
		holdPair(t, long, long[:1500])
		holdPair(t, long, limbs{top, 1 << 31})
		holdPair(t, limbs{3}, long)
		holdOne(t, long)
	}
	if a, ok := nat.Parse(strings.Repeat("0", 1<<20)); !ok || len(a) != 0 {
		t.Errorf("zeros: %v, %v", a, ok)
	}
	if a, ok := nat.Parse(strings.Repeat("9", 1<<20) + "x"); ok || len(a) != 0 {
		t.Errorf("wrong at its end: %v, %v", a, ok)
	}
}

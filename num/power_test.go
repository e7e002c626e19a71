package num_test

import (
	"math"
	"math/big"
	"slices"
	"strings"
	"testing"

	"tandem/api"
	"tandem/num"
)

// holdPower holds Power against the library's, with just enough binary digits, one fewer, and plenty.
func holdPower(t *testing.T, a api.Num, n int) {
	t.Helper()
	want := new(big.Int).Exp(toBig(a), big.NewInt(int64(n)), nil)
	digits := want.BitLen()
	for _, bits := range []int{digits, digits + 1, 2*digits + 64, math.MaxInt} {
		got, ok := num.Power(a, n, bits)
		if !ok {
			t.Fatalf("Power(%v, %d, %d): false", a, n, bits)
		}
		wants(t, "Power", got, want)
	}
	for _, bits := range []int{digits - 1, digits / 2, 0, -1, math.MinInt} {
		if bits >= digits {
			continue
		}
		if got, ok := num.Power(a, n, bits); ok || !isZero(got) {
			t.Fatalf("Power(%v, %d, %d): %v, %v", a, n, bits, got, ok)
		}
	}
}

// P2.3: small bases of either sign, edges, and longer ones.
func TestPowers(t *testing.T) {
	for a := int64(-20); a <= 20; a++ {
		for n := range 70 {
			holdPower(t, num.Of(a), n)
		}
	}
	for _, a := range edges() {
		for _, n := range []int{0, 1, 2, 3, 7, 8, 31} {
			holdPower(t, a, n)
		}
	}
	d := dice(63)
	for range 200 {
		holdPower(t, d.number(12), int(d.next()%40))
	}
}

// P2.3: longer than the heads by which powers are told to be too great: bases whose head is a power of two, or all ones, and whose powers come close to one.
func TestLongPowers(t *testing.T) {
	for _, a := range []api.Num{
		{Mag: append(make(limbs, 20), 1)},
		{Neg: true, Mag: append(append(limbs{1}, make(limbs, 20)...), 1)},
		{Mag: slices.Repeat(limbs{top}, 20)},
		{Mag: append(append(make(limbs, 9), top), 1<<31)},
		fromBig(new(big.Int).Sqrt(new(big.Int).Lsh(big.NewInt(1), 1001))),
		fromBig(new(big.Int).Add(big.NewInt(1), new(big.Int).Sqrt(new(big.Int).Lsh(big.NewInt(1), 1001)))),
	} {
		for _, n := range []int{1, 2, 3, 16, 33} {
			holdPower(t, a, n)
		}
	}
	holdPower(t, num.Of(-3), 5000)
	holdPower(t, num.Of(10), 4321)
}

// P2.3: n below 0, and bits below 0, are always refused.
func TestPowerRefused(t *testing.T) {
	for _, a := range edges() {
		for _, n := range []int{-1, -2, math.MinInt} {
			if got, ok := num.Power(a, n, 1000); ok || !isZero(got) {
				t.Errorf("Power(%v, %d, 1000): %v, %v", a, n, got, ok)
			}
		}
		for _, n := range []int{0, 1, 5, math.MaxInt} {
			for _, bits := range []int{-1, math.MinInt} {
				if got, ok := num.Power(a, n, bits); ok || !isZero(got) {
					t.Errorf("Power(%v, %d, %d): %v, %v", a, n, bits, got, ok)
				}
			}
		}
	}
}

// P2.3: 0, 1 and -1 to powers as great as may be; 0 to the power 0 is 1.
func TestPowersOfLittle(t *testing.T) {
	for _, x := range []struct {
		a       api.Num
		n, bits int
		want    int64
		ok      bool
	}{
		{num.Of(0), 0, 1, 1, true}, {num.Of(0), 0, 0, 0, false}, {api.Num{Neg: true, Mag: limbs{0}}, 0, 1, 1, true},
		{num.Of(0), 1, 0, 0, true}, {num.Of(0), math.MaxInt, 0, 0, true}, {api.Num{Neg: true, Mag: limbs{0, 0}}, math.MaxInt, 9, 0, true},
		{num.Of(1), math.MaxInt, 1, 1, true}, {num.Of(1), math.MaxInt, 0, 0, false}, {num.Of(1), 0, 0, 0, false},
		{num.Of(-1), math.MaxInt, 1, -1, true}, {num.Of(-1), math.MaxInt - 1, 1, 1, true}, {num.Of(-1), math.MaxInt, 0, 0, false}, {num.Of(-1), 0, 1, 1, true},
		{num.Of(-9), 0, 1, 1, true}, {num.Of(-9), 0, 0, 0, false}, {num.Of(-9), 1, 4, -9, true}, {num.Of(-9), 1, 3, 0, false},
	} {
		got, ok := num.Power(x.a, x.n, x.bits)
		if ok != x.ok || !same(got, num.Of(x.want)) {
			t.Errorf("Power(%v, %d, %d): %v, %v", x.a, x.n, x.bits, got, ok)
		}
	}
}

// P2.3: answers that are too great don't take long: by far, by a half, by one binary digit. (3 to the power 2^40 has 1742684699132 binary digits: log2 of 3 is 1.58496250072115618145..)
func TestTooGreatInNoTime(t *testing.T) {
	long := api.Num{Mag: slices.Repeat(limbs{12345}, 50000)}
	for _, x := range []struct {
		a       api.Num
		n, bits int
	}{
		{num.Of(2), math.MaxInt, 1 << 20}, {num.Of(2), math.MaxInt, math.MaxInt}, {num.Of(-3), math.MaxInt, math.MaxInt},
		{num.Of(2), 1 << 40, 1 << 40}, {num.Of(3), 1 << 40, 3 << 39}, {num.Of(-3), 1 << 40, 1742684699131},
		{num.Of(10), 1 << 50, 3 << 50}, {num.Of(math.MinInt64), 1 << 45, 63 << 45},
		{long, math.MaxInt, math.MaxInt}, {long, 1 << 38, 1 << 58}, {long, 2, 100},
	} {
		if got, ok := num.Power(x.a, x.n, x.bits); ok || !isZero(got) {
			t.Errorf("to the power %d in %d: %v", x.n, x.bits, ok)
		}
	}
}

// P2.3, R5: no count of limbs leaves int64 on the way: powers of 2^(32k), whose counts would come round to little.
func TestTooGreatBeyondInt64(t *testing.T) {
	refused := func(a api.Num, n, bits int) {
		t.Helper()
		if got, ok := num.Power(a, n, bits); ok || !isZero(got) {
			t.Errorf("2^%d to the power %d in %d: %v", 32*(len(a.Mag)-1), n, bits, ok)
		}
	}
	refused(api.Num{Mag: append(make(limbs, 16), 1)}, 1<<60, 1<<20)
	refused(api.Num{Mag: append(make(limbs, 32), 1)}, 1<<59, 1<<30)
	for k := 50000; k < 50010; k++ {
		a := api.Num{Mag: append(make(limbs, k), 1)}
		half := (math.MaxInt - 1) / (32 * k)
		refused(a, 2*half+1, math.MaxInt)
		refused(a, 2*half, math.MaxInt)
		refused(a, half+1, math.MaxInt)
	}
}

// P2.3: powers of two and of ten, whose digits are known, however many.
func TestDigitsOfGreatPowers(t *testing.T) {
	got, ok := num.Power(num.Of(2), 1<<16, 1<<16+1)
	if !ok || toBig(got).BitLen() != 1<<16+1 {
		t.Errorf("2 to the power 2^16: %v", ok)
	}
	got, ok = num.Power(num.Of(-10), 1001, 1<<16)
	if want := "-1" + strings.Repeat("0", 1001); !ok || num.Text(got) != want {
		t.Errorf("-10 to the power 1001: %v", ok)
	}
}

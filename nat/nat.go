// Package nat is layer 1: natural numbers of any size, as lists of limbs of 32 bits, the lowest first.
//
// Lists that are handed in may have limbs 0 at their end; lists that are answered have none, and are new memory.
package nat

import "math/bits"

// limbBits is how many binary digits a limb has.
const limbBits = 32

// Add is the sum of all that are handed in.
func Add(a, b []uint32, more ...[]uint32) []uint32 {
	longest := max(len(a), len(b))
	for _, m := range more {
		longest = max(longest, len(m))
	}
	// Room for a carry saves the sums of fewer than 2^32 numbers from being moved.
	sum := make([]uint32, longest, longest+1)
	sum = addGrowing(sum, a)
	sum = addGrowing(sum, b)
	for _, m := range more {
		sum = addGrowing(sum, m)
	}
	return trim(sum)
}

// Sub is a less b, and true; false, if a is below b.
func Sub(a, b []uint32) ([]uint32, bool) {
	if Cmp(a, b) < 0 {
		return nil, false
	}
	difference := clone(trim(a))
	takeFrom(difference, trim(b))
	return trim(difference), true
}

// Mul is the product of all that are handed in.
func Mul(a, b []uint32, more ...[]uint32) []uint32 {
	factors := make([][]uint32, 0, len(more)+2)
	factors = append(factors, a, b)
	factors = append(factors, more...)
	return product(factors)
}

// Div is the quotient and the rest of a by b, and true; false, if b is 0.
func Div(a, b []uint32) (q, r []uint32, ok bool) {
	a, b = trim(a), trim(b)
	switch {
	case len(b) == 0:
		return nil, nil, false
	case Cmp(a, b) < 0:
		return nil, clone(a), true
	case len(b) == 1:
		q = clone(a)
		r = []uint32{divideByLimb(q, b[0])}
	default:
		q, r = divideLong(a, b)
	}
	return trim(q), trim(r), true
}

// Cmp is -1, 0 or 1: a is below, equal to, above b.
func Cmp(a, b []uint32) int {
	a, b = trim(a), trim(b)
	if len(a) != len(b) {
		return sign(len(a) > len(b))
	}
	for i := len(a) - 1; i >= 0; i-- {
		if a[i] != b[i] {
			return sign(a[i] > b[i])
		}
	}
	return 0
}

// Bits is how many binary digits a has; 0 has none.
func Bits(a []uint32) int {
	a = trim(a)
	if len(a) == 0 {
		return 0
	}
	last := len(a) - 1
	return last*limbBits + bits.Len32(a[last])
}

func sign(above bool) int {
	if above {
		return 1
	}
	return -1
}

// trim is a without the limbs 0 at its end; it shares a's memory.
func trim(a []uint32) []uint32 {
	n := len(a)
	for n > 0 && a[n-1] == 0 {
		n--
	}
	return a[:n]
}

// clone is a in memory of its own.
func clone(a []uint32) []uint32 {
	c := make([]uint32, len(a))
	copy(c, a)
	return c
}

// addGrowing adds a to sum, in sum's memory while there is room. A sum of very many numbers outgrows any room that is set aside ahead, so that it grows by each carry that leaves it. Sum is at least as long as a.
func addGrowing(sum, a []uint32) []uint32 {
	if carry := addInto(sum, a); carry != 0 {
		sum = append(sum, carry)
	}
	return sum
}

// addInto adds a to sum, in place, and answers what is carried out of it. Sum is at least as long as a.
func addInto(sum, a []uint32) uint32 {
	var carry uint32
	for i, limb := range a {
		sum[i], carry = bits.Add32(sum[i], limb, carry)
	}
	for i := len(a); carry != 0 && i < len(sum); i++ {
		sum[i], carry = bits.Add32(sum[i], 0, carry)
	}
	return carry
}

// takeFrom takes b from a, in place. A is not below b, and at least as long.
func takeFrom(a, b []uint32) {
	var borrow uint32
	for i, limb := range b {
		a[i], borrow = bits.Sub32(a[i], limb, borrow)
	}
	for i := len(b); borrow != 0 && i < len(a); i++ {
		a[i], borrow = bits.Sub32(a[i], 0, borrow)
	}
}

// product multiplies half by half, lest a great factor is gone through once for each of many small ones. It answers its only factor itself, not a copy, if there is but one.
func product(factors [][]uint32) []uint32 {
	if len(factors) == 1 {
		return factors[0]
	}
	half := len(factors) / 2
	return times(product(factors[:half]), product(factors[half:]))
}

// times is the product of two, in new memory.
func times(a, b []uint32) []uint32 {
	a, b = trim(a), trim(b)
	if len(a) == 0 || len(b) == 0 {
		return nil
	}
	p := make([]uint32, len(a)+len(b))
	for i, limb := range a {
		p[i+len(b)] = addTimes(p[i:i+len(b)], b, limb)
	}
	return trim(p)
}

// addTimes adds b times limb to sum, in place, and answers what is carried out of it. Both are of one length.
func addTimes(sum, b []uint32, limb uint32) uint32 {
	var carry uint64
	for i := range b {
		// (2^32 - 1)^2 + 2 * (2^32 - 1) is 2^64 - 1: this never wraps round.
		carry += uint64(b[i])*uint64(limb) + uint64(sum[i])
		sum[i] = uint32(carry)
		carry >>= limbBits
	}
	return uint32(carry)
}

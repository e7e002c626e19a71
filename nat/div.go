package nat

import "math/bits"

// topLimb is the greatest limb.
const topLimb = 1<<limbBits - 1

// divideByLimb makes a into its quotient by d, in place, and answers the rest. D is not 0.
func divideByLimb(a []uint32, d uint32) uint32 {
	var rest uint32
	for i := len(a) - 1; i >= 0; i-- {
		a[i], rest = bits.Div32(rest, a[i], d)
	}
	return rest
}

// divideLong divides limb by limb, the highest first (Knuth's algorithm D). B has two limbs or more, a is not below b, and both are trimmed.
func divideLong(a, b []uint32) (q, r []uint32) {
	n := len(b)
	// With the divisor's highest bit set, a guess from the highest limbs is at most 1 too great.
	shift := bits.LeadingZeros32(b[n-1])
	rest := shiftLeft(a, shift)
	divisor := shiftLeft(b, shift)[:n]
	q = make([]uint32, len(a)-n+1)
	for j := len(q) - 1; j >= 0; j-- {
		part := rest[j : j+n+1]
		guess := guessLimb(part, divisor)
		if takeTimes(part, divisor, guess) {
			guess--
			// What is carried out makes good what was borrowed.
			addInto(part, divisor)
		}
		q[j] = guess
	}
	return q, shiftRight(rest[:n], shift)
}

// guessLimb is the quotient of part by divisor, or 1 more than that, by their highest limbs. Part is one limb longer than divisor, and below divisor times 2^32.
func guessLimb(part, divisor []uint32) uint32 {
	n := len(divisor)
	first, second := uint64(divisor[n-1]), uint64(divisor[n-2])
	head := uint64(part[n])<<limbBits | uint64(part[n-1])
	next := uint64(part[n-2])
	guess, left := head/first, head%first
	for guess > topLimb || guess*second > left<<limbBits|next {
		guess--
		left += first
		if left > topLimb {
			break
		}
	}
	return uint32(guess)
}

// takeTimes takes divisor times limb from part, in place, and tells whether it had to borrow from beyond part. Part is one limb longer than divisor.
func takeTimes(part, divisor []uint32, limb uint32) bool {
	var carry uint64
	var borrow uint32
	for i := range divisor {
		carry += uint64(divisor[i]) * uint64(limb)
		part[i], borrow = bits.Sub32(part[i], uint32(carry), borrow)
		carry >>= limbBits
	}
	last := len(divisor)
	part[last], borrow = bits.Sub32(part[last], uint32(carry), borrow)
	return borrow != 0
}

// shiftLeft is a times 2^n, n below 32, in new memory that is one limb longer.
func shiftLeft(a []uint32, n int) []uint32 {
	out := make([]uint32, len(a)+1)
	for i, limb := range a {
		wide := uint64(limb) << n
		out[i] |= uint32(wide)
		out[i+1] = uint32(wide >> limbBits)
	}
	return out
}

// shiftRight is a by 2^n, n below 32, in new memory of the same length.
func shiftRight(a []uint32, n int) []uint32 {
	out := make([]uint32, len(a))
	for i := range a {
		wide := uint64(a[i])
		if i+1 < len(a) {
			wide |= uint64(a[i+1]) << limbBits
		}
		out[i] = uint32(wide >> n)
	}
	return out
}

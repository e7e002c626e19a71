package num

import (
	"math/bits"

	"tandem/nat"
)

// headLimbs is how long a head is by which powers are told to be too great. What is cut off of a power of n below 2^63 makes a head too small by less than 1 of 2^150 parts.
const headLimbs = 8

// head is the highest limbs of a size, and how many are cut off below them: it is not above that size.
type head struct {
	size
	cut int
}

// headOf keeps at most keep limbs of s, which stands cut limbs high.
func headOf(s size, cut, keep int) head {
	extra := max(len(s)-keep, 0)
	return head{s[extra:], cut + extra}
}

func (h head) times(g head, keep int) head {
	return headOf(nat.Mul(h.size, g.size), h.cut+g.cut, keep)
}

// isOver tells whether h has more than limit binary digits; it asks so that no sum leaves int.
func (h head) isOver(limit int) bool {
	return h.cut > limit/limbBits || h.bits() > limit-h.cut*limbBits
}

// raise is the head of base to the power n, by squares, n's highest binary digit first, so that it can give up as soon as limit is passed; false, if that head has more than limit binary digits.
func raise(base size, n, limit, keep int) (size, bool) {
	factor := headOf(base, 0, keep)
	power := head{size{1}, 0}
	for place := bits.Len(uint(n)) - 1; place >= 0; place-- {
		power = power.times(power, keep)
		if n>>place&1 == 1 {
			power = power.times(factor, keep)
		}
		if power.isOver(limit) {
			return nil, false
		}
	}
	return power.size, !power.isOver(limit)
}

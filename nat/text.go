package nat

import (
	"math/bits"
	"strconv"
)

// A group is as many decimal digits as a limb surely holds.
const (
	groupDigits = 9
	groupBase   = 1000000000
)

// Text is the decimal digits of a, the shortest.
func Text(a []uint32) string {
	groups := groupsOf(a)
	if len(groups) == 0 {
		return "0"
	}
	last := len(groups) - 1
	text := make([]byte, 0, len(groups)*groupDigits)
	text = strconv.AppendUint(text, uint64(groups[last]), 10)
	for i := last - 1; i >= 0; i-- {
		text = appendGroup(text, groups[i])
	}
	return string(text)
}

// Parse is the number of one or more decimal digits, and true; false, if s is anything else.
func Parse(s string) ([]uint32, bool) {
	if s == "" || !allDigits(s) {
		return nil, false
	}
	var a []uint32
	// The first group is the one that may be short, or empty.
	end := len(s) % groupDigits
	for start := 0; start < len(s); start, end = end, end+groupDigits {
		a = shiftInGroup(a, groupValue(s[start:end]))
	}
	return a, true
}

// groupsOf is a in groups of decimal digits, the lowest first, the highest one not 0.
func groupsOf(a []uint32) []uint32 {
	rest := clone(trim(a))
	var groups []uint32
	for len(rest) > 0 {
		groups = append(groups, divideByLimb(rest, groupBase))
		rest = trim(rest)
	}
	return groups
}

// appendGroup appends all nine digits of a group, zeros ahead too.
func appendGroup(text []byte, group uint32) []byte {
	for unit := uint32(groupBase / 10); unit > 0; unit /= 10 {
		text = append(text, '0'+byte(group/unit%10))
	}
	return text
}

func allDigits(s string) bool {
	for i := range len(s) {
		if s[i] < '0' || s[i] > '9' {
			return false
		}
	}
	return true
}

// groupValue is the number of at most nine decimal digits.
func groupValue(digits string) uint32 {
	var v uint32
	for i := range len(digits) {
		v = v*10 + uint32(digits[i]-'0')
	}
	return v
}

// shiftInGroup is a times 10^9 and the group. It works in a's own memory, and stays without limbs 0 at the end.
func shiftInGroup(a []uint32, group uint32) []uint32 {
	carry := group
	for i, limb := range a {
		high, low := bits.Mul32(limb, groupBase)
		sum, over := bits.Add32(low, carry, 0)
		a[i] = sum
		carry = high + over
	}
	if carry != 0 {
		a = append(a, carry)
	}
	return a
}

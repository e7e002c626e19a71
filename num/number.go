package num

import (
	"tandem/api"
	"tandem/nat"
)

// limbBits is how many binary digits a limb has.
const limbBits = 32

// size is how great a number is, whatever its sign; it has no limb 0 at its end.
type size []uint32

func (s size) isZero() bool { return len(s) == 0 }

func (s size) text() string { return nat.Text(s) }

func (s size) bits() int { return nat.Bits(s) }

// word is a size as one word, and true, if it is that small.
func (s size) word() (uint64, bool) {
	switch len(s) {
	case 0:
		return 0, true
	case 1:
		return uint64(s[0]), true
	case 2:
		return uint64(s[1])<<limbBits | uint64(s[0]), true
	}
	return 0, false
}

// copied is a size in memory of its own.
func (s size) copied() size {
	c := make(size, len(s))
	copy(c, s)
	return c
}

// number is a number that is worked at. It is below 0 or not; 0 is not.
type number struct {
	size
	below bool
}

// numberOf is a number of limbs, in their memory.
func numberOf(limbs []uint32, below bool) number {
	end := len(limbs)
	for end > 0 && limbs[end-1] == 0 {
		end--
	}
	s := size(limbs[:end])
	return number{s, below && !s.isZero()}
}

// work is a number that was handed in, in the caller's memory: an answer must be made of a copy.
func work(a api.Num) number { return numberOf(a.Mag, a.Neg) }

func workAll(a []api.Num) []number {
	all := make([]number, len(a))
	for i, one := range a {
		all[i] = work(one)
	}
	return all
}

func (n number) answer() api.Num { return api.Num{Neg: n.below, Mag: n.size} }

// turned is n with its sign turned, in n's memory.
func (n number) turned() number { return numberOf(n.size, !n.below) }

// sum parts the numbers by their sign, so that there is one difference, however many they are.
func sum(all ...number) number {
	var above, below [][]uint32
	for _, n := range all {
		if n.below {
			below = append(below, n.size)
		} else {
			above = append(above, n.size)
		}
	}
	return difference(total(above), total(below))
}

func total(sizes [][]uint32) []uint32 { return nat.Add(nil, nil, sizes...) }

func difference(a, b []uint32) number {
	if d, ok := nat.Sub(a, b); ok {
		return numberOf(d, false)
	}
	d, _ := nat.Sub(b, a)
	return numberOf(d, true)
}

func product(all ...number) number {
	below := false
	var sizes [][]uint32
	for _, n := range all {
		below = below != n.below
		sizes = append(sizes, n.size)
	}
	// nat.Mul takes two or more.
	for len(sizes) < 2 {
		sizes = append(sizes, []uint32{1})
	}
	return numberOf(nat.Mul(sizes[0], sizes[1], sizes[2:]...), below)
}

// divide divides towards 0; the rest has a's sign.
func divide(a, b number) (q, r number, ok bool) {
	quotient, rest, ok := nat.Div(a.size, b.size)
	return numberOf(quotient, a.below != b.below), numberOf(rest, a.below), ok
}

// commonDivisor may answer one of its arguments itself.
func commonDivisor(a, b size) size {
	for !b.isZero() {
		_, rest, _ := nat.Div(a, b)
		a, b = b, rest
	}
	return a
}

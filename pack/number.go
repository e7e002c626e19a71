package pack

// Numbers are from 0 to mostNumber, signed ones from -mostSigned to mostSigned: so many that each is told by one of the former, and each of these tells one.
const (
	mostNumber = 1 << 40
	mostSigned = 1 << 39
)

// A number's binary digits are told in groups, a byte each; a byte's mark says that a group follows.
const (
	groupBits  = 7
	groupMark  = 1 << groupBits
	mostGroups = 6 // those of mostNumber
)

func isNumber(n int) bool { return n >= 0 && n <= mostNumber }
func isSigned(n int) bool { return n >= -mostSigned && n <= mostSigned }

func (w *writer) number(n int) {
	for n >= groupMark {
		w.out = append(w.out, byte(n%groupMark+groupMark))
		n /= groupMark
	}
	w.out = append(w.out, byte(n))
}

func (r *reader) number() int {
	n := 0
	for i := range mostGroups {
		b := int(r.take(1)[0])
		group := b % groupMark
		n += group << (i * groupBits)
		if b < groupMark {
			isShortest := group > 0 || i == 0
			must(isShortest && isNumber(n))
			return n
		}
	}
	panic(refusal)
}

// signed tells numbers near to 0 by few groups, whatever their sign is.
func (w *writer) signed(v int) {
	if v < 0 {
		w.number(-2*v - 1)
		return
	}
	w.number(2 * v)
}

func (r *reader) signed() int {
	n := r.number()
	if n%2 == 1 {
		return -(n + 1) / 2
	}
	return n / 2
}

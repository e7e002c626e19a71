package value

// What a tagged word is, its two lowest bits say.
const (
	tagBits    = 2
	tagMask    = 1<<tagBits - 1
	pointerTag = 0
	fixnumTag  = 1
	headerTag  = 3
)

// The least and the greatest fixnum.
const (
	leastFix = -1 << 61
	mostFix  = 1<<61 - 1
)

// Immediates that stand for one value each.
const (
	falseWord   = 2
	trueWord    = 6
	emptyList   = 10
	unspecified = 14
)

// Immediates that have a number: the low byte says of what.
const (
	numberAt = 8
	markMask = 1<<numberAt - 1
	charMark = 22
	primMark = 26
	mostChar = 255
)

// Fix is the fixnum's word, and true; false, if n is out of its range.
func Fix(n int64) (uint64, bool) {
	if n < leastFix || n > mostFix {
		return 0, false
	}
	return uint64(n)<<tagBits | fixnumTag, true
}

// Int is the number of a fixnum's word, and true; false of another word.
func Int(w uint64) (int64, bool) {
	if w&tagMask != fixnumTag {
		return 0, false
	}
	return int64(w) >> tagBits, true
}

// truth is the word of 0, false, or 1, true; false of another number.
func truth(n int) (uint64, bool) {
	switch n {
	case 0:
		return falseWord, true
	case 1:
		return trueWord, true
	}
	return 0, false
}

// character is the word of a character; false, if it may not be one.
func character(c int) (uint64, bool) {
	if c < 0 || c > mostChar {
		return 0, false
	}
	return uint64(c)<<numberAt | charMark, true
}

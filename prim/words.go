package prim

import "tandem/value"

// What a tagged word is, its two lowest bits say.
const (
	tagMask    = 3
	pointerTag = 0
	headerTag  = 3
)

// Immediates that stand for one value each.
const (
	falseWord = 2
	trueWord  = 6
	emptyList = 10
	voidWord  = 14
)

// Immediates that have a number: the low byte says of what.
const (
	numberAt = 8
	markMask = 1<<numberAt - 1
	charMark = 22
	primMark = 26
	mostChar = 255
)

// values are words as values of the store: headers, and pointers to no objects, are Void.
func values(s *value.Store, words ...uint64) []uint64 {
	all := make([]uint64, len(words))
	for i, w := range words {
		tag := w & tagMask
		if tag == headerTag || tag == pointerTag && !s.Is(w) {
			w = voidWord
		}
		all[i] = w
	}
	return all
}

// fixnum is the word of a number that is known to be a fixnum's.
func fixnum(n int) uint64 {
	w, _ := value.Fix(int64(n))
	return w
}

func truth(yes bool) uint64 {
	if yes {
		return trueWord
	}
	return falseWord
}

func character(c byte) uint64 { return uint64(c)<<numberAt | charMark }

func isChar(w uint64) bool { return w&markMask == charMark && w>>numberAt <= mostChar }

// charByte is the byte of a word that is known to be a character.
func charByte(w uint64) byte { return byte(w >> numberAt) }

package prim

// wordBytes is how many of a text's bytes stand in a word.
const wordBytes = 8

// Texts are asked for their length and for a byte without telling all of them: a long one may be gone through byte by byte.

// textLength is how many bytes a text has, and true; false of what is none: it has just the words that its length wants, and 0 behind its last byte.
func (c *call) textLength(w uint64) (int, bool) {
	raws := c.Raws(w)
	if raws == 0 || !c.isShape(w, textKind, 0, raws) {
		return 0, false
	}
	length, last := c.rawField(w, 0), c.rawField(w, raws-1)
	// A length may be any word: none that is too great is counted with.
	if length > uint64(raws*wordBytes) || textRaws(int(length)) != raws {
		return 0, false
	}
	if inLast := length % wordBytes; inLast != 0 && last>>(8*inLast) != 0 {
		return 0, false
	}
	return int(length), true
}

// textByte is a byte of a text that is known to be there.
func (c *call) textByte(w uint64, i int) byte {
	return byte(c.rawField(w, 1+i/wordBytes) >> (i % wordBytes * 8))
}

// textPart are the bytes of a text from one place to below another.
func (c *call) textPart(w uint64, from, to int) []byte {
	part := make([]byte, to-from)
	for i := range part {
		part[i] = c.textByte(w, from+i)
	}
	return part
}

func (c *call) rawField(w uint64, i int) uint64 {
	field, _ := c.Raw(w, i)
	return field
}

// textRaws is how many raw words a text of that length has.
func textRaws(length int) int { return 1 + (length+wordBytes-1)/wordBytes }

// textWords is how many words it has, its header too.
func textWords(length int) int { return 1 + textRaws(length) }

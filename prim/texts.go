package prim

import "bytes"

// texts are what is done with texts, symbols and characters.
func (c *call) texts() map[string]does {
	return map[string]does{
		"string-length":  c.countBytes,
		"string-ref":     c.textRef,
		"string-append":  c.appendTexts,
		"substring":      c.substring,
		"string=?":       c.testSameTexts,
		"string<?":       c.testRisingTexts,
		"string->list":   c.textToList,
		"list->string":   c.listToText,
		"string->symbol": c.textToSymbol,
		"symbol->string": c.symbolToText,
		"char->integer":  c.charToNumber,
		"integer->char":  c.numberToChar,
		"char=?":         c.testSameChars,
		"char<?":         c.testRisingChars,
	}
}

func (c *call) countBytes() answer {
	length, ok := c.textLength(c.args[0])
	if !ok {
		return c.wrong(typeClass)
	}
	return done(fixnum(length))
}

func (c *call) textRef() answer {
	if !c.are(c.isText, c.isNumber) {
		return c.wrong(typeClass)
	}
	length, _ := c.textLength(c.args[0])
	i, ok := c.index(1, length-1)
	if !ok {
		return c.wrong(rangeClass)
	}
	return done(character(c.textByte(c.args[0], i)))
}

// appendTexts counts the bytes ahead of putting them together: one text handed in again and again has more of them than any memory.
func (c *call) appendTexts() answer {
	count := 0
	for _, w := range c.args {
		length, ok := c.textLength(w)
		if !ok {
			return c.wrong(typeClass)
		}
		count += length
	}
	if textWords(count) > room(c.Store) {
		return noRoom()
	}
	all := make([]byte, 0, count)
	for _, w := range c.args {
		b, _ := c.Bytes(w)
		all = append(all, b...)
	}
	return laid(c.Text(all))
}

func (c *call) substring() answer {
	if !c.are(c.isText, c.isNumber, c.isNumber) {
		return c.wrong(typeClass)
	}
	length, _ := c.textLength(c.args[0])
	from, ok := c.index(1, length)
	to, fits := c.index(2, length)
	if !ok || !fits || from > to {
		return c.wrong(rangeClass)
	}
	return laid(c.Text(c.textPart(c.args[0], from, to)))
}

func (c *call) testSameTexts() answer { return c.comparedTexts(bytes.Equal) }

func (c *call) testRisingTexts() answer {
	return c.comparedTexts(func(a, b []byte) bool { return bytes.Compare(a, b) < 0 })
}

// comparedTexts tells whether something is so of the bytes of two texts.
func (c *call) comparedTexts(is func(a, b []byte) bool) answer {
	a, ok := c.Bytes(c.args[0])
	b, isText := c.Bytes(c.args[1])
	if !ok || !isText {
		return c.wrong(typeClass)
	}
	return told(is(a, b))
}

func (c *call) textToList() answer {
	b, ok := c.Bytes(c.args[0])
	if !ok {
		return c.wrong(typeClass)
	}
	items := make([]uint64, len(b))
	for i := range b {
		items[i] = character(b[i])
	}
	return laid(c.List(items...))
}

func (c *call) listToText() answer {
	items, ok := c.items(c.args[0])
	if !ok {
		return c.wrong(typeClass)
	}
	b := make([]byte, len(items))
	for i, w := range items {
		if !isChar(w) {
			return c.wrong(typeClass)
		}
		b[i] = charByte(w)
	}
	return laid(c.Text(b))
}

func (c *call) textToSymbol() answer {
	b, ok := c.Bytes(c.args[0])
	if !ok {
		return c.wrong(typeClass)
	}
	return laid(c.Intern(string(b)))
}

func (c *call) symbolToText() answer {
	name, ok := c.Name(c.args[0])
	if !ok {
		return c.wrong(typeClass)
	}
	return laid(c.Text([]byte(name)))
}

func (c *call) charToNumber() answer {
	if !c.are(isChar) {
		return c.wrong(typeClass)
	}
	return done(fixnum(int(charByte(c.args[0]))))
}

func (c *call) numberToChar() answer {
	if !c.are(c.isNumber) {
		return c.wrong(typeClass)
	}
	n, ok := c.index(0, mostChar)
	if !ok {
		return c.wrong(rangeClass)
	}
	return done(character(byte(n)))
}

func (c *call) testSameChars() answer {
	return c.comparedChars(func(a, b byte) bool { return a == b })
}

func (c *call) testRisingChars() answer {
	return c.comparedChars(func(a, b byte) bool { return a < b })
}

// comparedChars tells whether something is so of two characters.
func (c *call) comparedChars(is func(a, b byte) bool) answer {
	if !c.are(isChar, isChar) {
		return c.wrong(typeClass)
	}
	return told(is(charByte(c.args[0]), charByte(c.args[1])))
}

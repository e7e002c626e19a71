package show

const hexDigits = "0123456789abcdef"

func truth(n int) string {
	if n == 1 {
		return "#t"
	}
	return "#f"
}

func (t *teller) letter(n int, how manner) {
	if how == shown {
		t.put(oneByte(byte(n)))
		return
	}
	t.put(`#\`, letterName(n))
}

// letterName is what is written of a character behind its #\.
func letterName(n int) string {
	switch {
	case n == ' ':
		return "space"
	case n == '\n':
		return "newline"
	case n == '\t':
		return "tab"
	case n == 0:
		return "nul"
	case ' ' < n && n <= '~':
		return oneByte(byte(n))
	}
	return "x" + twoDigits(byte(n))
}

func (t *teller) text(s string, how manner) {
	if how == shown {
		t.put(s)
		return
	}
	t.put(`"`)
	for i := range len(s) {
		t.textByte(s[i])
	}
	t.put(`"`)
}

// textByte writes a byte that stands between quotes.
func (t *teller) textByte(b byte) {
	switch {
	case b == '"', b == '\\':
		t.put(`\`, oneByte(b))
	case b == '\n':
		t.put(`\n`)
	case b == '\t':
		t.put(`\t`)
	case b < ' ', b > '~':
		t.put(`\x`, twoDigits(b), ";")
	default:
		t.put(oneByte(b))
	}
}

func oneByte(b byte) string { return string([]byte{b}) }

// twoDigits are a byte's hexadecimal digits.
func twoDigits(b byte) string { return string([]byte{hexDigits[b>>4], hexDigits[b&15]}) }

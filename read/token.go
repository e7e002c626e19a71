package read

import (
	"strings"

	"tandem/api"
	"tandem/num"
)

const (
	delimiters = " \t\n\r()\";'"
	// symbolMarks are the bytes of symbols beside letters and digits.
	symbolMarks = "!$%&*+-./:<=>?@^_~"
)

// tokenLength is how many bytes there are up to a delimiter.
func tokenLength(rest string) int {
	for i := range len(rest) {
		if strings.IndexByte(delimiters, rest[i]) >= 0 {
			return i
		}
	}
	return len(rest)
}

// atom is the datum of a token.
func (r *reader) atom(p piece) piece {
	d, ok := atomOf(r.bytes(p))
	if !ok {
		return fault(p.from, api.ErrToken)
	}
	return made(p.from, p.to, d)
}

func atomOf(bytes string) (api.Datum, bool) {
	switch bytes {
	case "#t", "#true":
		return api.Datum{Kind: api.Bool, N: 1}, true
	case "#f", "#false":
		return api.Datum{Kind: api.Bool}, true
	}
	if n, ok := num.Parse(bytes); ok {
		return api.Datum{Kind: api.Int, Num: n}, true
	}
	if isSymbol(bytes) {
		return api.Datum{Kind: api.Symbol, Text: strings.Clone(bytes)}, true
	}
	return api.Datum{}, false
}

func isSymbol(bytes string) bool {
	for i := range len(bytes) {
		if !inSymbol(bytes[i]) {
			return false
		}
	}
	return !isDigit(bytes[0])
}

func inSymbol(b byte) bool {
	return 'a' <= b && b <= 'z' || 'A' <= b && b <= 'Z' || isDigit(b) || strings.IndexByte(symbolMarks, b) >= 0
}

func isDigit(b byte) bool { return '0' <= b && b <= '9' }

// letter is the datum of a token that begins with #\.
func (r *reader) letter(p piece) piece {
	n, ok := letterOf(r.bytes(p)[2:])
	if !ok {
		return fault(p.from, api.ErrChar)
	}
	return made(p.from, p.to, api.Datum{Kind: api.Char, N: n})
}

// letterOf is the character of that name.
func letterOf(name string) (int, bool) {
	switch {
	case len(name) == 1:
		return int(name[0]), true
	case name == "space":
		return ' ', true
	case name == "newline":
		return '\n', true
	case name == "tab":
		return '\t', true
	case name == "nul":
		return 0, true
	case strings.HasPrefix(name, "x"):
		n, count := hexBegin(name[1:])
		return n, 1+count == len(name)
	}
	return 0, false
}

// hexBegin is the number that a text begins with, of at most two hexadecimal digits, and how many they are.
func hexBegin(rest string) (n, count int) {
	for count < 2 && count < len(rest) {
		digit := strings.IndexByte("0123456789abcdef", rest[count])
		if digit < 0 {
			break
		}
		n = n<<4 + digit
		count++
	}
	return n, count
}

package read_test

import (
	"reflect"
	"regexp"
	"strconv"
	"strings"
	"testing"

	"tandem/api"
	"tandem/num"
	"tandem/read"
)

// model is a second reader, of plain texts: it goes down wherever something is within something, and finds tokens by patterns.
type model struct {
	text string
	at   int
	open int
}

// refusal is how a model gives up.
type refusal struct {
	at int
	e  api.Errno
}

var (
	blankPattern   = regexp.MustCompile(`^([ \t\n\r]|;[^\n]*)+`)
	tokenPattern   = regexp.MustCompile(`^[^ \t\n\r()";']+`)
	charPattern    = regexp.MustCompile(`^#\\(?s:.)[^ \t\n\r()";']*`)
	textPattern    = regexp.MustCompile(`^"(?s:[^"\\]|\\["\\nt]|\\x[0-9a-f]{1,2};)*`)
	cutPattern     = regexp.MustCompile(`^\\(x[0-9a-f]{0,2})?$`)
	numberPattern  = regexp.MustCompile(`^[+-]?[0-9]+$`)
	symbolPattern  = regexp.MustCompile(`^[a-zA-Z!$%&*+\-./:<=>?@^_~][a-zA-Z0-9!$%&*+\-./:<=>?@^_~]*$`)
	hexCharPattern = regexp.MustCompile(`^#\\x[0-9a-f]{1,2}$`)
	piecePattern   = regexp.MustCompile(`(?s)\\["\\nt]|\\x[0-9a-f]{1,2};|.`)
)

func (m *model) refuse(at int, e api.Errno) { panic(refusal{at, e}) }
func (m *model) rest() string               { return m.text[m.at:] }
func (m *model) sees(s string) bool         { return strings.HasPrefix(m.rest(), s) }

func (m *model) blanks() {
	for {
		switch b := blankPattern.FindString(m.rest()); {
		case b != "":
			m.at += len(b)
		case m.sees("#|"):
			m.comment()
		case m.sees("#;"):
			m.at += 2
			m.datum()
		default:
			return
		}
	}
}

func (m *model) comment() {
	for m.at += 2; !m.sees("|#"); {
		switch {
		case m.rest() == "":
			m.refuse(len(m.text), api.ErrEnd)
		case m.sees("#|"):
			m.comment()
		default:
			m.at++
		}
	}
	m.at += 2
}

func (m *model) datum() api.Datum {
	m.blanks()
	switch {
	case m.rest() == "":
		m.refuse(len(m.text), api.ErrEnd)
	case m.sees(")"):
		m.refuse(m.at, api.ErrClose)
	case m.sees(`"`):
		return m.quoted()
	case m.sees(`#\`):
		return m.letter()
	}
	for _, x := range []struct{ open, name string }{{"(", ""}, {"#(", ""}, {"'", "quote"}, {"`", "quasiquote"}, {",@", "unquote-splicing"}, {",", "unquote"}} {
		if !m.sees(x.open) {
			continue
		}
		if m.open++; m.open > api.MaxDepth {
			m.refuse(m.at, api.ErrDeep)
		}
		m.at += len(x.open)
		d := api.Datum{}
		if x.name == "" {
			d = m.row(x.open == "(")
		} else {
			d = list(symbol(x.name), m.datum())
		}
		m.open--
		return d
	}
	return m.token()
}

// row goes through a list or a vector; after a dot one datum is wanted, then none.
func (m *model) row(mayDot bool) api.Datum {
	var data []api.Datum
	want := "any"
	for {
		m.blanks()
		isDot := tokenPattern.FindString(m.rest()) == "."
		switch {
		case m.rest() == "":
			m.refuse(len(m.text), api.ErrEnd)
		case m.sees(")") && want != "one":
			m.at++
			return m.rowOf(data, mayDot, want == "none")
		case m.sees(")"), want == "none", isDot && (want != "any" || !mayDot || len(data) == 0):
			m.refuse(m.at, api.ErrDot)
		case isDot:
			m.at++
			want = "one"
			continue
		}
		data = append(data, m.datum())
		if want == "one" {
			want = "none"
		}
	}
}

func (m *model) rowOf(data []api.Datum, isList, hasRest bool) api.Datum {
	switch {
	case !isList:
		return vector(data...)
	case !hasRest:
		return list(data...)
	}
	last := len(data) - 1
	if rest := data[last]; rest.Kind == api.List {
		return api.Datum{Kind: api.List, Items: append(data[:last:last], rest.Items...), Rest: rest.Rest}
	}
	return dotted(data[last], data[:last]...)
}

func (m *model) quoted() api.Datum {
	inner := textPattern.FindString(m.rest())
	m.at += len(inner)
	switch {
	case m.rest() == "" || cutPattern.MatchString(m.rest()):
		m.refuse(len(m.text), api.ErrEnd)
	case !m.sees(`"`):
		m.refuse(m.at, api.ErrText)
	}
	m.at++
	s := piecePattern.ReplaceAllStringFunc(inner[1:], func(p string) string {
		switch {
		case p == `\n`:
			return "\n"
		case p == `\t`:
			return "\t"
		case strings.HasPrefix(p, `\x`):
			n, _ := strconv.ParseUint(p[2:len(p)-1], 16, 8)
			return string([]byte{byte(n)})
		}
		return strings.TrimPrefix(p, `\`[:len(p)-1])
	})
	return text(s)
}

func (m *model) letter() api.Datum {
	s := charPattern.FindString(m.rest())
	n := map[string]int{`#\space`: 32, `#\newline`: 10, `#\tab`: 9, `#\nul`: 0}
	c, named := n[s]
	switch {
	case len(s) == 3:
		c = int(s[2])
	case hexCharPattern.MatchString(s):
		x, _ := strconv.ParseUint(s[3:], 16, 8)
		c = int(x)
	case !named:
		m.refuse(m.at, api.ErrChar)
	}
	m.at += len(s)
	return letter(c)
}

func (m *model) token() api.Datum {
	s := tokenPattern.FindString(m.rest())
	from := m.at
	m.at += len(s)
	switch {
	case s == "#t" || s == "#true":
		return boolean(1)
	case s == "#f" || s == "#false":
		return boolean(0)
	case numberPattern.MatchString(s):
		n, _ := num.Parse(s)
		return api.Datum{Kind: api.Int, Num: n}
	case s == ".":
		m.refuse(from, api.ErrDot)
	case !symbolPattern.MatchString(s):
		m.refuse(from, api.ErrToken)
	}
	return symbol(s)
}

// modelOne is what One should answer from a byte within the text on.
func modelOne(s string, at int) (d api.Datum, next int, e api.Errno) {
	defer func() {
		if x, ok := recover().(refusal); ok {
			d, next, e = api.Datum{}, x.at, x.e
		}
	}()
	m := &model{text: s, at: at}
	d = m.datum()
	return d, m.at, api.OK
}

// modelAll is what All should answer.
func modelAll(s string) (data []api.Datum, at int, e api.Errno) {
	defer func() {
		if x, ok := recover().(refusal); ok {
			data, at, e = nil, x.at, x.e
		}
	}()
	m := &model{text: s}
	for m.blanks(); m.rest() != ""; m.blanks() {
		data = append(data, m.datum())
	}
	return data, 0, api.OK
}

// wantModel holds both functions against the model.
func wantModel(t *testing.T, s string) {
	t.Helper()
	data, at, e := read.All(s)
	wantData, wantAt, wantE := modelAll(s)
	if at != wantAt || e != wantE || !same(data, wantData) {
		t.Fatalf("All(%q): %+v, error %d at %d, not %+v, %d at %d", s, data, e, at, wantData, wantE, wantAt)
	}
	for from := range len(s) + 1 {
		d, next, e := read.One(s, from)
		wantD, wantNext, wantE := modelOne(s, from)
		if next != wantNext || e != wantE || !reflect.DeepEqual(bare(d), bare(wantD)) {
			t.Fatalf("One(%q, %d): %+v, error %d at %d, not %+v, %d at %d", s, from, d, e, next, wantD, wantE, wantNext)
		}
	}
}

// Every text of a few bytes of those that mean something.
func TestShortTexts(t *testing.T) {
	for alphabet, length := range map[string]int{"()'.a #;": 5, "#|;a\n": 6, `"\x4;n`: 6, `#\x4a( `: 5, ",@`#(a)": 5, "+-1a. ": 5} {
		spell(alphabet, length, func(s string) {
			wantModel(t, s)
		})
	}
}

// spell goes through all texts of bytes of the alphabet that are at most that long.
func spell(alphabet string, length int, visit func(s string)) {
	var grow func(s []byte)
	grow = func(s []byte) {
		visit(string(s))
		if len(s) == length {
			return
		}
		for i := range len(alphabet) {
			grow(append(s, alphabet[i]))
		}
	}
	grow(make([]byte, 0, length))
}

// Texts of words that mean something, in any order.
func TestAnyWords(t *testing.T) {
	words := strings.Split(`( ) ( ) #( ' ,@ , . #; #| |# ; " \ \x41; \n #\a #\space #\x4 #\( #t #false 12 -5 a b.c ... 1a #foo x a"b `+"`", " ")
	words = append(words, " ", " ", " ", "\n", "\t", "(a . ", " . b)", "((", "))")
	for seed := range 20000 {
		d := dice(seed + 1)
		var s strings.Builder
		for range d.below(14) {
			s.WriteString(words[d.below(len(words))])
			if d.below(2) == 0 {
				s.WriteString(" ")
			}
		}
		wantModel(t, s.String())
	}
}

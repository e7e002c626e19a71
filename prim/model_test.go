package prim_test

import (
	"math/big"
	"slices"
	"strings"

	"tandem/api"
	"tandem/num"
	"tandem/value"
)

// A second way to do primitives: kinds by a table of letters, numbers by math/big, chains pair by pair up to more than any heap of these tests has.

// wish is what a call is to come to.
type wish struct {
	how   int
	class string
	word  uint64     // what was there, or is no object
	d     *api.Datum // what is new
	out   string
}

// kinds are those of a primitive's arguments: n number, t text, p pair, v vector, c character, s symbol, q condition, l list, a dot anything; the last one stands for all that are left.
func kinds(name string) string {
	for part := range strings.SplitSeq("n + - * = < > <= >= quotient remainder modulo abs min max gcd expt zero? positive? negative? odd? even? number->string integer->char, t string->number string-length string-append string=? string<? string->list string->symbol, p car cdr, p. set-car! set-cdr!, l length reverse list->vector list->string, .n list-ref list-tail, n. make-vector, v vector-length vector->list, vn vector-ref, vn. vector-set!, v. vector-fill!, tn string-ref substring, s symbol->string, c char->integer char=? char<? write-char, q condition-class condition-message condition-irritants", ", ") {
		if f := strings.Fields(part); slices.Contains(f[1:], name) {
			return f[0]
		}
	}
	return "."
}

// model is one call.
type model struct {
	s    *value.Store
	name string
	args []uint64
}

func (m model) is(letter byte, w uint64) bool {
	k, tagged, raws := m.s.Kind(w), m.s.Tagged(w), m.s.Raws(w)
	switch letter {
	case 'n':
		_, ok := m.s.Num(w)
		return ok
	case 't':
		_, ok := m.s.Bytes(w)
		return ok
	case 's':
		_, ok := m.s.Name(w)
		return ok
	case 'p':
		return k == Pair && tagged == 2 && raws == 0
	case 'v':
		return k == Vector && raws == 0
	case 'q':
		return k == Condition && tagged == 3 && raws == 0
	case 'c':
		return w%256 == 22 && w < 65536
	case 'l':
		_, end := m.chain(w)
		return end == Empty
	}
	return true
}

// chain are the pairs of a chain, and what ends it: one of them, if it goes round.
func (m model) chain(w uint64) ([]uint64, uint64) {
	var pairs []uint64
	for m.is('p', w) && len(pairs) < 3000 {
		pairs = append(pairs, w)
		w, _ = m.s.Get(w, 1)
	}
	return pairs, w
}

func (m model) come() wish {
	p := listed()[slices.IndexFunc(listed(), func(p api.Prim) bool { return p.Name == m.name })]
	for i, w := range m.args {
		if w%4 == 3 || w%4 == 0 && !m.s.Is(w) {
			m.args[i] = Void
		}
	}
	if len(m.args) < p.Least || p.Most >= 0 && len(m.args) > p.Most {
		return wish{how: api.Wrong, class: "arity"}
	}
	letters := kinds(m.name)
	for i, w := range m.args {
		if !m.is(letters[min(i, len(letters)-1)], w) || m.name == "append" && i < len(m.args)-1 && !m.is('l', w) {
			return wish{how: api.Wrong, class: "type"}
		}
	}
	switch {
	case letters == "." && strings.HasSuffix(m.name, "?") || m.name == "not":
		return m.tests()
	case letters == "n" || m.name == "string->number":
		return m.numbers()
	case strings.HasPrefix(m.name, "string") || strings.HasPrefix(m.name, "char-") || strings.ContainsAny(letters[:1], "tcs") || m.name == "list->string":
		return m.texts()
	case strings.Contains(m.name, "vector"):
		return m.vectors()
	}
	return m.others()
}

func (m model) big(i int) *big.Int {
	n, _ := m.s.Num(m.args[i])
	b, _ := new(big.Int).SetString(num.Text(n), 10)
	return b
}

func wrong(class string) wish { return wish{how: api.Wrong, class: class} }

func word(w uint64) wish { return wish{word: w} }

func yes(b bool) wish {
	if b {
		return word(True)
	}
	return word(False)
}

func number(b *big.Int) wish {
	if b.BitLen() > 32*api.MaxLimbs {
		return wish{how: api.Limit}
	}
	if b.IsInt64() && b.Int64() >= -1<<61 && b.Int64() < 1<<61 {
		return word(fix(int(b.Int64())))
	}
	n, _ := num.Parse(b.String())
	return wish{d: &api.Datum{Kind: api.Int, Num: n}}
}

func (m model) numbers() wish {
	if m.name == "string->number" {
		b, _ := m.s.Bytes(m.args[0])
		text := string(b)
		digits := strings.TrimPrefix(strings.TrimPrefix(text, "-"), "+")
		if digits == "" || strings.Trim(digits, "0123456789") != "" || len(text)-len(digits) > 1 {
			return word(False)
		}
		n, _ := new(big.Int).SetString(text, 10)
		return number(n)
	}
	if len(m.args) == 0 {
		return word(map[string]uint64{"+": fix(0), "*": fix(1), "gcd": fix(0)}[m.name])
	}
	a := m.big(0)
	if len(m.args) == 1 {
		return m.one(a)
	}
	sum := new(big.Int).Set(a)
	holds := true
	for i := 1; i < len(m.args); i++ {
		b := m.big(i)
		order := m.big(i - 1).Cmp(b)
		switch m.name {
		case "+":
			sum.Add(sum, b)
		case "-":
			sum.Sub(sum, b)
		case "*":
			sum.Mul(sum, b)
		case "gcd":
			sum.GCD(nil, nil, new(big.Int).Abs(sum), new(big.Int).Abs(b))
		case "min":
			if b.Cmp(sum) < 0 {
				sum = b
			}
		case "max":
			if b.Cmp(sum) > 0 {
				sum = b
			}
		case "=", "<", ">", "<=", ">=":
			holds = holds && strings.Contains(m.name, string("<=>"[order+1]))
		default:
			return m.divided(a, b)
		}
	}
	if strings.ContainsAny(m.name, "=<>") {
		return yes(holds)
	}
	return number(sum)
}

// one: with one number.
func (m model) one(a *big.Int) wish {
	switch m.name {
	case "=", "<", ">", "<=", ">=":
		return word(True)
	case "-":
		return number(new(big.Int).Neg(a))
	case "abs", "gcd":
		return number(new(big.Int).Abs(a))
	case "zero?":
		return yes(a.Sign() == 0)
	case "positive?":
		return yes(a.Sign() > 0)
	case "negative?":
		return yes(a.Sign() < 0)
	case "odd?":
		return yes(a.Bit(0) == 1)
	case "even?":
		return yes(a.Bit(0) == 0)
	case "number->string":
		return wish{d: &api.Datum{Kind: api.String, Text: a.String()}}
	case "integer->char":
		if !a.IsInt64() || a.Int64() < 0 || a.Int64() > 255 {
			return wrong("range")
		}
		return word(char(int(a.Int64())))
	}
	return number(a)
}

func (m model) divided(a, b *big.Int) wish {
	if m.name == "expt" {
		if b.Sign() < 0 || !b.IsInt64() || b.Int64() >= 1<<61 {
			return wrong("range")
		}
		if a.BitLen() > 1 && b.Int64() > 9000 {
			return wish{how: api.Limit}
		}
		if a.BitLen() <= 1 {
			b = big.NewInt(b.Int64()%2 + 2*min(b.Int64(), 1))
		}
		return number(new(big.Int).Exp(a, b, nil))
	}
	if b.Sign() == 0 {
		return wrong("divide")
	}
	q, r := new(big.Int).QuoRem(a, b, new(big.Int))
	switch {
	case m.name == "quotient":
		return number(q)
	case m.name == "modulo" && r.Sign()*b.Sign() < 0:
		return number(r.Add(r, b))
	}
	return number(r)
}

func (m model) tests() wish {
	w := m.args[0]
	switch m.name {
	case "eq?":
		return yes(w == m.args[1])
	case "eqv?":
		return yes(m.s.Eqv(w, m.args[1]))
	case "equal?":
		same, ends := m.s.Equal(w, m.args[1])
		if !ends {
			return wish{how: api.Limit}
		}
		return yes(same)
	case "not":
		return yes(w == False)
	case "boolean?":
		return yes(w == True || w == False)
	case "null?":
		return yes(w == Empty)
	case "procedure?":
		return yes(m.s.Kind(w) == Closure && m.s.Raws(w) == 1 || m.s.Kind(w) == Continuation || w%256 == 26)
	}
	letter := map[string]byte{"number?": 'n', "pair?": 'p', "list?": 'l', "symbol?": 's', "string?": 't', "char?": 'c', "vector?": 'v', "condition?": 'q'}[m.name]
	return yes(m.is(letter, w))
}

// index is a number from 0 to most; -1: out of range.
func (m model) index(i, most int) int {
	n := m.big(i)
	if !n.IsInt64() || n.Int64() < 0 || n.Int64() > int64(most) {
		return -1
	}
	return int(n.Int64())
}

package nat_test

import (
	"math/big"
	"slices"
	"strings"
	"testing"

	"tandem/nat"
)

const top = 1<<32 - 1

type limbs = []uint32

// toBig and fromBig go to the library's numbers, which the answers are held against.
func toBig(a limbs) *big.Int {
	v := new(big.Int)
	for i := len(a) - 1; i >= 0; i-- {
		v.Lsh(v, 32)
		v.Or(v, big.NewInt(int64(a[i])))
	}
	return v
}

func fromBig(v *big.Int) limbs {
	var a limbs
	mask := big.NewInt(top)
	for v = new(big.Int).Set(v); v.Sign() > 0; v.Rsh(v, 32) {
		a = append(a, uint32(new(big.Int).And(v, mask).Uint64()))
	}
	return a
}

// wants holds an answer against a value; limb by limb, so that only canonical answers pass.
func wants(t *testing.T, what string, got limbs, want *big.Int) {
	t.Helper()
	if !slices.Equal(got, fromBig(want)) {
		t.Fatalf("%s: got %v, want %v", what, got, fromBig(want))
	}
}

// edgeLists are all lists of at most three limbs where carries, borrows and guesses turn; many have limbs 0 at their end.
func edgeLists() []limbs {
	edges := limbs{0, 1, 1<<31 - 1, 1 << 31, top - 1, top}
	lists := []limbs{nil}
	for from := 0; len(lists[from]) < 3; from++ {
		for _, e := range edges {
			lists = append(lists, append(slices.Clone(lists[from]), e))
		}
	}
	return lists
}

// dice is a row of numbers that is the same in each run.
type dice uint64

func (d *dice) next() uint64 {
	*d ^= *d << 13
	*d ^= *d >> 7
	*d ^= *d << 17
	return uint64(*d)
}

// list is a list of fewer than most limbs, about half of which are edges.
func (d *dice) list(most int) limbs {
	a := make(limbs, d.next()%uint64(most))
	for i := range a {
		switch d.next() % 8 {
		case 0:
			a[i] = 0
		case 1:
			a[i] = top
		case 2:
			a[i] = 1 << 31
		case 3:
			a[i] = 1
		default:
			a[i] = uint32(d.next() >> 16)
		}
	}
	return a
}

// holdPair holds all calls that take two numbers against the library's.
func holdPair(t *testing.T, a, b limbs) {
	t.Helper()
	x, y := toBig(a), toBig(b)
	wants(t, "Add", nat.Add(a, b), new(big.Int).Add(x, y))
	wants(t, "Mul", nat.Mul(a, b), new(big.Int).Mul(x, y))
	if got := nat.Cmp(a, b); got != x.Cmp(y) {
		t.Fatalf("Cmp(%v, %v): %d", a, b, got)
	}
	d, ok := nat.Sub(a, b)
	if ok != (x.Cmp(y) >= 0) || !ok && len(d) != 0 {
		t.Fatalf("Sub(%v, %v): %v, %v", a, b, d, ok)
	}
	if ok {
		wants(t, "Sub", d, new(big.Int).Sub(x, y))
	}
	q, r, ok := nat.Div(a, b)
	if ok != (y.Sign() != 0) || !ok && len(q)+len(r) != 0 {
		t.Fatalf("Div(%v, %v): %v, %v, %v", a, b, q, r, ok)
	}
	if ok {
		wants(t, "Div's quotient", q, new(big.Int).Quo(x, y))
		wants(t, "Div's rest", r, new(big.Int).Rem(x, y))
	}
}

// holdOne holds all calls that take one number against the library's.
func holdOne(t *testing.T, a limbs) {
	t.Helper()
	x := toBig(a)
	if got := nat.Bits(a); got != x.BitLen() {
		t.Fatalf("Bits(%v): %d", a, got)
	}
	if got := nat.Text(a); got != x.String() {
		t.Fatalf("Text(%v): %s", a, got)
	}
	back, ok := nat.Parse(x.String())
	if !ok {
		t.Fatalf("Parse(%s): false", x)
	}
	wants(t, "Parse", back, x)
}

// P1.1, P1.2: the chapter's examples, word for word.
func TestExamples(t *testing.T) {
	if got := nat.Add(limbs{top}, limbs{1}); !slices.Equal(got, limbs{0, 1}) {
		t.Errorf("Add: %v", got)
	}
	if got := nat.Mul(limbs{top}, limbs{top}); !slices.Equal(got, limbs{1, top - 1}) {
		t.Errorf("Mul: %v", got)
	}
	if q, r, ok := nat.Div(limbs{7}, limbs{2}); !ok || !slices.Equal(q, limbs{3}) || !slices.Equal(r, limbs{1}) {
		t.Errorf("Div: %v, %v, %v", q, r, ok)
	}
	if got := nat.Text(limbs{0, 1}); got != "4294967296" {
		t.Errorf("Text: %s", got)
	}
	if got, ok := nat.Parse("007"); !ok || !slices.Equal(got, limbs{7}) {
		t.Errorf("Parse: %v, %v", got, ok)
	}
	if got, ok := nat.Sub(limbs{1}, limbs{2}); ok || len(got) != 0 {
		t.Errorf("Sub: %v, %v", got, ok)
	}
}

// P1.1: pairs of edges.
func TestPairsOfEdges(t *testing.T) {
	lists := edgeLists()
	for _, a := range lists {
		for _, b := range lists {
			holdPair(t, a, b)
		}
	}
}

// P1.1: longer pairs, with the dividend mostly longer than the divisor.
func TestLongerPairs(t *testing.T) {
	d := dice(20261)
	for range 4000 {
		holdPair(t, d.list(24), d.list(12))
	}
	for range 50 {
		holdPair(t, d.list(600), d.list(300))
	}
}

// P1.1: dividends that are a multiple of the divisor, or one off it, where a guess is easily one too great.
func TestDividendsBesideMultiples(t *testing.T) {
	d := dice(77)
	for range 2000 {
		b, q := d.list(8), d.list(8)
		a := nat.Mul(b, q)
		holdPair(t, a, b)
		holdPair(t, nat.Add(a, limbs{1}), b)
		if less, ok := nat.Sub(a, limbs{1}); ok {
			holdPair(t, less, b)
		}
	}
}

// P1.1: divisions in which the guess from the highest limbs must be mended, by one, by two, and by giving back.
func TestGuessesThatAreMended(t *testing.T) {
	for _, x := range [][2]limbs{
		{{0, 0, 1 << 31}, {1, 1 << 31}},
		{{3, 0, 1 << 31}, {1, 0, 1 << 29}},
		{{0, top - 1, 1 << 31}, {top, 1 << 31}},
		{{0, 0, 1 << 31, 1<<31 - 1}, {1, 0, 1 << 31}},
		{{0, top - 1, 0, 1 << 31}, {top, 0, 1 << 31}},
		{{0, 0, 0, 1<<31 - 1, 1<<31 - 1}, {top, top, 1<<31 - 1}},
		{{top, top, top, top}, {top, top}},
		{{0, 0, 0, 1}, {top, top}},
	} {
		holdPair(t, x[0], x[1])
	}
}

// P1.1: a divisor 0 in all its forms; a dividend below the divisor; a rest 0.
func TestDivEdges(t *testing.T) {
	for _, zero := range []limbs{nil, {}, {0}, {0, 0, 0}} {
		for _, a := range []limbs{nil, {0}, {7}, {0, 1}, {1, 2, 3}} {
			if q, r, ok := nat.Div(a, zero); ok || len(q) != 0 || len(r) != 0 {
				t.Errorf("Div(%v, %v): %v, %v, %v", a, zero, q, r, ok)
			}
		}
	}
	if q, r, ok := nat.Div(limbs{5, 6, 7, 0, 0}, limbs{0, 0, 0, 1, 0}); !ok || len(q) != 0 || !slices.Equal(r, limbs{5, 6, 7}) {
		t.Errorf("below: %v, %v, %v", q, r, ok)
	}
	if q, r, ok := nat.Div(limbs{9, 9, 9}, limbs{9, 9, 9, 0}); !ok || !slices.Equal(q, limbs{1}) || len(r) != 0 {
		t.Errorf("itself: %v, %v, %v", q, r, ok)
	}
	if q, r, ok := nat.Div(nil, limbs{3}); !ok || len(q) != 0 || len(r) != 0 {
		t.Errorf("0 by 3: %v, %v, %v", q, r, ok)
	}
}

// P1.1: a below, equal to, above b; one below alone is refused.
func TestSubEdges(t *testing.T) {
	if d, ok := nat.Sub(limbs{0, 0, 1}, limbs{1}); !ok || !slices.Equal(d, limbs{top, top}) {
		t.Errorf("borrow: %v, %v", d, ok)
	}
	if d, ok := nat.Sub(limbs{4, 5}, limbs{4, 5, 0}); !ok || len(d) != 0 {
		t.Errorf("equal: %v, %v", d, ok)
	}
	if d, ok := nat.Sub(limbs{4, 5}, limbs{5, 5}); ok || len(d) != 0 {
		t.Errorf("one below: %v, %v", d, ok)
	}
	if d, ok := nat.Sub(limbs{1, 0, 0}, limbs{1, 1}); ok || len(d) != 0 {
		t.Errorf("longer, and below: %v, %v", d, ok)
	}
	if d, ok := nat.Sub(limbs{1}, limbs{1, 0, 0}); !ok || len(d) != 0 {
		t.Errorf("shorter, and equal: %v, %v", d, ok)
	}
}

// P1.1: sums and products of many, and of lists of many lengths.
func TestMany(t *testing.T) {
	d := dice(5)
	for count := range 12 {
		for range 60 {
			a, b := d.list(6), d.list(6)
			sum := new(big.Int).Add(toBig(a), toBig(b))
			product := new(big.Int).Mul(toBig(a), toBig(b))
			var more []limbs
			for range count {
				m := d.list(6)
				more = append(more, m)
				sum.Add(sum, toBig(m))
				product.Mul(product, toBig(m))
			}
			wants(t, "Add", nat.Add(a, b, more...), sum)
			wants(t, "Mul", nat.Mul(a, b, more...), product)
		}
	}
}

// P1.1: so many that the carries of a sum fill more than one binary digit; a product of many that are not 0.
func TestVeryMany(t *testing.T) {
	more := slices.Repeat([]limbs{{top, top}}, 100000)
	want := new(big.Int).Mul(toBig(limbs{top, top}), big.NewInt(100002))
	wants(t, "Add", nat.Add(limbs{top, top}, limbs{top, top}, more...), want)

	want.MulRange(1, 600)
	more = nil
	for i := range uint32(598) {
		more = append(more, limbs{i + 3, 0})
	}
	wants(t, "Mul", nat.Mul(limbs{1}, limbs{2}, more...), want)
	more[300] = limbs{0, 0}
	wants(t, "Mul with a 0", nat.Mul(limbs{1}, limbs{2}, more...), new(big.Int))
}

// P1.1: nothing but zeros; no more than two numbers.
func TestZerosAlone(t *testing.T) {
	for _, z := range []limbs{nil, {}, {0}, {0, 0}} {
		if got := nat.Add(z, z); len(got) != 0 {
			t.Errorf("Add: %v", got)
		}
		if got := nat.Mul(z, limbs{5, 6}); len(got) != 0 {
			t.Errorf("Mul: %v", got)
		}
		if got := nat.Mul(limbs{5, 6}, limbs{1}, z); len(got) != 0 {
			t.Errorf("Mul of three: %v", got)
		}
		if nat.Cmp(z, nil) != 0 || nat.Cmp(z, limbs{1}) != -1 || nat.Cmp(limbs{1}, z) != 1 {
			t.Errorf("Cmp of %v", z)
		}
		if nat.Bits(z) != 0 || nat.Text(z) != "0" {
			t.Errorf("Bits, Text of %v", z)
		}
	}
}

// P1.2: edges, and longer ones.
func TestOnes(t *testing.T) {
	for _, a := range edgeLists() {
		holdOne(t, a)
	}
	d := dice(31)
	for range 500 {
		holdOne(t, d.list(40))
	}
	holdOne(t, d.list(1000))
}

// P1.2: powers of ten and their neighbours: where digits come to be one more, and zeros stand within.
func TestPowersOfTen(t *testing.T) {
	for n := range 100 {
		power := limbs{1}
		for range n {
			power = nat.Mul(power, limbs{10})
		}
		if got, want := nat.Text(power), "1"+strings.Repeat("0", n); got != want {
			t.Fatalf("Text: %s, want %s", got, want)
		}
		holdOne(t, power)
		holdOne(t, nat.Add(power, limbs{1}))
		less, _ := nat.Sub(power, limbs{1})
		holdOne(t, less)
	}
}

// P1.2: powers of two and their neighbours: where binary digits come to be one more.
func TestBitsAtPowersOfTwo(t *testing.T) {
	for n := range 200 {
		power := fromBig(new(big.Int).Lsh(big.NewInt(1), uint(n)))
		less, _ := nat.Sub(power, limbs{1})
		if nat.Bits(power) != n+1 || nat.Bits(less) != n || nat.Bits(append(power, 0, 0)) != n+1 {
			t.Fatalf("2^%d: %d, %d", n, nat.Bits(power), nat.Bits(less))
		}
	}
}

// P1.2: zeros ahead of digits, of every count beside the places where digits are taken together.
func TestParseZerosAhead(t *testing.T) {
	for zeros := range 40 {
		for _, digits := range []string{"0", "7", "10", "4294967295", "4294967296", "18446744073709551616", "1000000000000000000"} {
			want, _ := new(big.Int).SetString(digits, 10)
			got, ok := nat.Parse(strings.Repeat("0", zeros) + digits)
			if !ok {
				t.Fatalf("%d zeros, %s: false", zeros, digits)
			}
			wants(t, "Parse", got, want)
		}
	}
}

// P1.2: any other text is none: a wrong byte at each place of texts of each length, too.
func TestParseWrong(t *testing.T) {
	wrong := []string{"", "-1", "+1", " 1", "1 ", "1\n", "\t1", "1a", "a", "0x10", "1_000", "1,000", "1.0", "1e3", "--", "\x00", "1\x00", "\xff", "\u0661", "\uff11", "1\u06612", "/", ":", "0/", "0:"}
	for _, s := range wrong {
		if got, ok := nat.Parse(s); ok || len(got) != 0 {
			t.Errorf("Parse(%q): %v, %v", s, got, ok)
		}
	}
	for n := 1; n < 30; n++ {
		for place := range n {
			for _, c := range []byte{0, ' ', '-', '/', ':', 'a', 0x80, 0xb1, 0xff} {
				s := []byte(strings.Repeat("3", n))
				s[place] = c
				if got, ok := nat.Parse(string(s)); ok || len(got) != 0 {
					t.Fatalf("Parse(%q): %v, %v", s, got, ok)
				}
			}
		}
	}
}

// P1.2: every text of one byte.
func TestParseOneByte(t *testing.T) {
	for c := range 256 {
		got, ok := nat.Parse(string([]byte{byte(c)}))
		if ok != (c >= '0' && c <= '9') || !ok && len(got) != 0 {
			t.Errorf("byte %d: %v, %v", c, got, ok)
		}
		if ok {
			wants(t, "Parse", got, big.NewInt(int64(c-'0')))
		}
	}
}

// P1.3: asked of the calls alone.
func TestWhatFollows(t *testing.T) {
	d := dice(99)
	for range 1500 {
		a, b := d.list(30), d.list(15)
		if q, r, ok := nat.Div(a, b); ok && (nat.Cmp(r, b) >= 0 || nat.Cmp(nat.Add(nat.Mul(q, b), r), a) != 0) {
			t.Fatalf("Div(%v, %v): %v, %v", a, b, q, r)
		}
		if back, ok := nat.Parse(nat.Text(a)); !ok || nat.Cmp(back, a) != 0 {
			t.Fatalf("Parse(Text(%v)): %v, %v", a, back, ok)
		}
		n := nat.Bits(a)
		if nat.Cmp(a, fromBig(new(big.Int).Lsh(big.NewInt(1), uint(n)))) >= 0 {
			t.Fatalf("Bits(%v): %d is too few", a, n)
		}
		if n > 0 && nat.Cmp(a, fromBig(new(big.Int).Lsh(big.NewInt(1), uint(n-1)))) < 0 {
			t.Fatalf("Bits(%v): %d is too many", a, n)
		}
	}
}

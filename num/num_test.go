package num_test

import (
	"math"
	"math/big"
	"slices"
	"strings"
	"testing"

	"tandem/api"
	"tandem/num"
)

const top = 1<<32 - 1

type limbs = []uint32

// toBig and fromBig go to the library's numbers, which the answers are held against.
func toBig(a api.Num) *big.Int {
	v := new(big.Int)
	for i := len(a.Mag) - 1; i >= 0; i-- {
		v.Lsh(v, 32)
		v.Or(v, big.NewInt(int64(a.Mag[i])))
	}
	if a.Neg {
		v.Neg(v)
	}
	return v
}

func fromBig(v *big.Int) api.Num {
	a := api.Num{Neg: v.Sign() < 0}
	mask := big.NewInt(top)
	for v = new(big.Int).Abs(v); v.Sign() > 0; v.Rsh(v, 32) {
		a.Mag = append(a.Mag, uint32(new(big.Int).And(v, mask).Uint64()))
	}
	return a
}

func same(a, b api.Num) bool { return a.Neg == b.Neg && slices.Equal(a.Mag, b.Mag) }

func isZero(a api.Num) bool { return !a.Neg && len(a.Mag) == 0 }

// wants holds an answer against a value; sign and limbs one by one, so that only canonical answers pass.
func wants(t *testing.T, what string, got api.Num, want *big.Int) {
	t.Helper()
	if !same(got, fromBig(want)) {
		t.Fatalf("%s: got %v, want %v", what, got, fromBig(want))
	}
}

// parsed is the number of a text that is known to be one.
func parsed(t *testing.T, s string) api.Num {
	t.Helper()
	v, ok := new(big.Int).SetString(s, 10)
	if !ok {
		t.Fatalf("no number: %q", s)
	}
	return fromBig(v)
}

// edges are numbers of both signs where carries, borrows and signs turn; many have limbs 0 at their end, and 0 has Neg, too.
func edges() []api.Num {
	var all []api.Num
	for _, mag := range []limbs{nil, {}, {0}, {0, 0}, {1}, {1, 0}, {2}, {3}, {7}, {12}, {18, 0, 0}, {1 << 31}, {top}, {top, 0}, {0, 1}, {1, 1}, {top, 1<<29 - 1}, {0, 1 << 29}, {1, 1 << 29}, {0, 1 << 31}, {top, top}, {0, 0, 1}, {top, top, top, 0}, {5, 6, 7, 8}} {
		all = append(all, api.Num{Mag: mag}, api.Num{Neg: true, Mag: mag})
	}
	return all
}

// dice is a row of numbers that is the same in each run.
type dice uint64

func (d *dice) next() uint64 {
	*d ^= *d << 13
	*d ^= *d >> 7
	*d ^= *d << 17
	return uint64(*d)
}

// number has fewer than most limbs, some of which are edges, and either sign.
func (d *dice) number(most int) api.Num {
	a := api.Num{Neg: d.next()%2 == 0, Mag: make(limbs, d.next()%uint64(most))}
	for i := range a.Mag {
		switch d.next() % 6 {
		case 0:
			a.Mag[i] = 0
		case 1:
			a.Mag[i] = top
		default:
			a.Mag[i] = uint32(d.next() >> 16)
		}
	}
	return a
}

// holdPair holds all calls that take two numbers against the library's.
func holdPair(t *testing.T, a, b api.Num) {
	t.Helper()
	x, y := toBig(a), toBig(b)
	wants(t, "Add", num.Add(a, b), new(big.Int).Add(x, y))
	wants(t, "Sub", num.Sub(a, b), new(big.Int).Sub(x, y))
	wants(t, "Mul", num.Mul(a, b), new(big.Int).Mul(x, y))
	wants(t, "Gcd", num.Gcd(a, b), new(big.Int).GCD(nil, nil, new(big.Int).Abs(x), new(big.Int).Abs(y)))
	if got := num.Cmp(a, b); got != x.Cmp(y) {
		t.Fatalf("Cmp(%v, %v): %d", a, b, got)
	}
	holdDivision(t, a, b)
}

func holdDivision(t *testing.T, a, b api.Num) {
	t.Helper()
	x, y := toBig(a), toBig(b)
	q, r, ok := num.Truncate(a, b)
	fq, fr, fok := num.Floor(a, b)
	if y.Sign() == 0 {
		if ok || fok || !isZero(q) || !isZero(r) || !isZero(fq) || !isZero(fr) {
			t.Fatalf("%v by 0: %v, %v, %v; %v, %v, %v", a, q, r, ok, fq, fr, fok)
		}
		return
	}
	if !ok || !fok {
		t.Fatalf("%v by %v: %v, %v", a, b, ok, fok)
	}
	wantQ, wantR := new(big.Int).QuoRem(x, y, new(big.Int))
	wants(t, "Truncate's quotient", q, wantQ)
	wants(t, "Truncate's rest", r, wantR)
	if wantR.Sign()*y.Sign() < 0 {
		wantQ.Sub(wantQ, big.NewInt(1))
		wantR.Add(wantR, y)
	}
	wants(t, "Floor's quotient", fq, wantQ)
	wants(t, "Floor's rest", fr, wantR)
}

// holdOne holds all calls that take one number against the library's.
func holdOne(t *testing.T, a api.Num) {
	t.Helper()
	x := toBig(a)
	wants(t, "Neg", num.Neg(a), new(big.Int).Neg(x))
	wants(t, "Add of one", num.Add(a), x)
	wants(t, "Mul of one", num.Mul(a), x)
	wants(t, "Gcd of one", num.Gcd(a), new(big.Int).Abs(x))
	if got := num.Text(a); got != x.String() {
		t.Fatalf("Text(%v): %s", a, got)
	}
	back, ok := num.Parse(x.String())
	if !ok {
		t.Fatalf("Parse(%s): false", x)
	}
	wants(t, "Parse", back, x)
	v, ok := num.Small(a)
	small := x.IsInt64() && x.Int64() >= -1<<61 && x.Int64() < 1<<61
	if ok != small || ok && v != x.Int64() || !ok && v != 0 {
		t.Fatalf("Small(%v): %d, %v", a, v, ok)
	}
}

// P2.2, P2.3, P2.4: the chapter's examples, word for word.
func TestExamples(t *testing.T) {
	if q, r, ok := num.Truncate(num.Of(-7), num.Of(2)); !ok || !same(q, num.Of(-3)) || !same(r, num.Of(-1)) {
		t.Errorf("Truncate: %v, %v, %v", q, r, ok)
	}
	if q, r, ok := num.Floor(num.Of(-7), num.Of(2)); !ok || !same(q, num.Of(-4)) || !same(r, num.Of(1)) {
		t.Errorf("Floor: %v, %v, %v", q, r, ok)
	}
	if got := num.Gcd(num.Of(12), num.Of(-18)); !same(got, num.Of(6)) {
		t.Errorf("Gcd: %v", got)
	}
	if got, ok := num.Power(num.Of(2), 100, 101); !ok || num.Text(got) != "1267650600228229401496703205376" {
		t.Errorf("Power: %v, %v", got, ok)
	}
	if got, ok := num.Power(num.Of(2), 100, 100); ok || !isZero(got) {
		t.Errorf("Power, one digit too few: %v, %v", got, ok)
	}
	if got := num.Text(num.Of(-5)); got != "-5" {
		t.Errorf("Text: %s", got)
	}
	if got, ok := num.Parse("+07"); !ok || !same(got, num.Of(7)) {
		t.Errorf("Parse: %v, %v", got, ok)
	}
	if got, ok := num.Parse("-"); ok || !isZero(got) {
		t.Errorf("Parse of a sign: %v, %v", got, ok)
	}
}

// P2.1: Of, at both ends of int64 and where limbs come to be one more.
func TestOf(t *testing.T) {
	for _, v := range []int64{0, 1, -1, 5, -5, top - 1, top, top + 1, -top, -top - 1, 1<<61 - 1, 1 << 61, -1 << 61, -1<<61 - 1, math.MaxInt64, math.MinInt64, math.MinInt64 + 1} {
		wants(t, "Of", num.Of(v), big.NewInt(v))
	}
	d := dice(11)
	for range 500 {
		v := int64(d.next()) >> (d.next() % 64)
		wants(t, "Of", num.Of(v), big.NewInt(v))
	}
}

// P2.1: Small, at both its ends, and beyond a word.
func TestSmallEdges(t *testing.T) {
	for _, x := range []struct {
		text string
		ok   bool
	}{
		{"0", true}, {"-1", true}, {"4294967296", true},
		{"2305843009213693951", true}, {"2305843009213693952", false}, {"2305843009213693953", false},
		{"-2305843009213693951", true}, {"-2305843009213693952", true}, {"-2305843009213693953", false},
		{"9223372036854775807", false}, {"-9223372036854775808", false},
		{"18446744073709551615", false}, {"18446744073709551616", false}, {"-18446744073709551616", false}, {"18446744073709551617", false},
		{"79228162514264337593543950336", false},
	} {
		a := parsed(t, x.text)
		long := api.Num{Neg: a.Neg, Mag: append(slices.Clone(a.Mag), 0, 0, 0)}
		for _, n := range []api.Num{a, long} {
			v, ok := num.Small(n)
			if ok != x.ok || !ok && v != 0 || ok && big.NewInt(v).String() != x.text {
				t.Errorf("Small(%s): %d, %v", x.text, v, ok)
			}
		}
	}
	if v, ok := num.Small(api.Num{Neg: true, Mag: limbs{0}}); !ok || v != 0 {
		t.Errorf("Small(-0): %d, %v", v, ok)
	}
}

// P2.1, P2.2: edges alone and in pairs.
func TestEdges(t *testing.T) {
	for _, a := range edges() {
		holdOne(t, a)
		for _, b := range edges() {
			holdPair(t, a, b)
		}
	}
}

// P2.2: all signs of small numbers: where quotients downwards and towards 0 part.
func TestSmallDivisions(t *testing.T) {
	for a := int64(-13); a <= 13; a++ {
		for b := int64(-6); b <= 6; b++ {
			holdPair(t, num.Of(a), num.Of(b))
		}
	}
}

// P2.1, P2.2, P2.4: longer ones.
func TestLonger(t *testing.T) {
	d := dice(2026)
	for range 2000 {
		a := d.number(20)
		holdOne(t, a)
		holdPair(t, a, d.number(10))
	}
	for range 10 {
		holdPair(t, d.number(300), d.number(300))
	}
}

// P2.1, P2.2: of none, and of many with either sign.
func TestMany(t *testing.T) {
	if got := num.Add(); !isZero(got) {
		t.Errorf("Add: %v", got)
	}
	if got := num.Mul(); !same(got, num.Of(1)) {
		t.Errorf("Mul: %v", got)
	}
	if got := num.Gcd(); !isZero(got) {
		t.Errorf("Gcd: %v", got)
	}
	d := dice(8)
	for count := range 12 {
		for range 60 {
			var all []api.Num
			total, product := new(big.Int), big.NewInt(1)
			for range count {
				n := d.number(5)
				all = append(all, n)
				total.Add(total, toBig(n))
				product.Mul(product, toBig(n))
			}
			wants(t, "Add", num.Add(all...), total)
			wants(t, "Mul", num.Mul(all...), product)
		}
	}
}

// P2.1: sums that come to 0, products with a 0 and with an odd count of numbers below 0.
func TestSigns(t *testing.T) {
	five, minus := num.Of(5), num.Of(-5)
	if got := num.Add(five, minus, minus, five); !isZero(got) {
		t.Errorf("Add: %v", got)
	}
	if got := num.Mul(five, minus, api.Num{Mag: limbs{0, 0}}); !isZero(got) {
		t.Errorf("Mul with 0: %v", got)
	}
	if got := num.Mul(minus, minus, minus); !same(got, num.Of(-125)) {
		t.Errorf("Mul: %v", got)
	}
	if got := num.Neg(api.Num{Mag: limbs{0}}); !isZero(got) {
		t.Errorf("Neg of 0: %v", got)
	}
	if got := num.Neg(api.Num{Neg: true, Mag: limbs{7, 0, 0}}); !same(got, num.Of(7)) {
		t.Errorf("Neg of -7: %v", got)
	}
}

// P2.2: divisors that many have in common; zeros beside others, and alone.
func TestGcdOfMany(t *testing.T) {
	zero := api.Num{Neg: true, Mag: limbs{0}}
	for _, x := range []struct {
		all  []api.Num
		want int64
	}{
		{[]api.Num{zero}, 0}, {[]api.Num{zero, {}, zero}, 0},
		{[]api.Num{zero, num.Of(-4)}, 4}, {[]api.Num{num.Of(-4), zero}, 4}, {[]api.Num{num.Of(-9)}, 9},
		{[]api.Num{num.Of(12), num.Of(-18), num.Of(27)}, 3}, {[]api.Num{num.Of(30), zero, num.Of(-42), num.Of(70)}, 2},
		{[]api.Num{num.Of(6), num.Of(10), num.Of(15)}, 1}, {[]api.Num{num.Of(1), num.Of(0), num.Of(-100)}, 1},
	} {
		if got := num.Gcd(x.all...); !same(got, num.Of(x.want)) {
			t.Errorf("Gcd(%v): %v", x.all, got)
		}
	}
	d := dice(44)
	for range 200 {
		common := d.number(6)
		a, b, c := num.Mul(common, d.number(6)), num.Mul(common, d.number(6)), num.Mul(common, d.number(6))
		want := new(big.Int).GCD(nil, nil, new(big.Int).Abs(toBig(a)), new(big.Int).Abs(toBig(b)))
		wants(t, "Gcd", num.Gcd(a, b, c), want.GCD(nil, nil, want, new(big.Int).Abs(toBig(c))))
	}
}

// P2.4: signs and zeros ahead; 0 with a sign.
func TestParseRight(t *testing.T) {
	for _, x := range [][2]string{
		{"0", "0"}, {"+0", "0"}, {"-0", "0"}, {"-000", "0"}, {"-00000000000000000000", "0"},
		{"+1", "1"}, {"-1", "-1"}, {"-0012", "-12"}, {"+4294967296", "4294967296"}, {"-4294967295", "-4294967295"},
		{"-2305843009213693953", "-2305843009213693953"}, {"000000000000000000000000000000000000001", "1"},
	} {
		got, ok := num.Parse(x[0])
		if !ok {
			t.Fatalf("Parse(%q): false", x[0])
		}
		wants(t, "Parse "+x[0], got, toBig(parsed(t, x[1])))
	}
}

// P2.4: any other text is none.
func TestParseWrong(t *testing.T) {
	wrong := []string{"", "+", "-", "--1", "++1", "+-1", "-+1", "1-", "1+", "1-1", " 1", "1 ", "- 1", "-1 ", "-\n1", "a", "-a", "0x1", "-0x1", "1.0", "1e3", "1_0", "-1_0", "\x00", "-\x00", "\xff", "\u22121", "\u0661", "-\u0661"}
	for _, s := range wrong {
		if got, ok := num.Parse(s); ok || !isZero(got) {
			t.Errorf("Parse(%q): %v, %v", s, got, ok)
		}
	}
	for c := range 256 {
		s := string([]byte{byte(c)})
		digit := c >= '0' && c <= '9'
		sign := c == '+' || c == '-'
		for _, x := range []struct {
			text string
			ok   bool
		}{{s, digit}, {"-" + s, digit}, {s + "1", digit || sign}, {"1" + s, digit}} {
			if got, ok := num.Parse(x.text); ok != x.ok || !ok && !isZero(got) {
				t.Errorf("Parse(%q): %v, %v", x.text, got, ok)
			}
		}
	}
	if got, ok := num.Parse("-" + strings.Repeat("9", 5000) + "-"); ok || !isZero(got) {
		t.Errorf("wrong at its end: %v, %v", got, ok)
	}
}

// P2.4: 0 is without a sign, whatever was handed in.
func TestTextOfZero(t *testing.T) {
	for _, a := range []api.Num{{}, {Neg: true}, {Neg: true, Mag: limbs{0}}, {Mag: limbs{0, 0}}} {
		if got := num.Text(a); got != "0" {
			t.Errorf("Text(%v): %s", a, got)
		}
	}
}

// P2.5: asked of the calls alone.
func TestWhatFollows(t *testing.T) {
	d := dice(5150)
	for range 1500 {
		a, b := d.number(16), d.number(8)
		for _, divide := range []func(a, b api.Num) (q, r api.Num, ok bool){num.Truncate, num.Floor} {
			q, r, ok := divide(a, b)
			if ok && num.Cmp(num.Add(num.Mul(q, b), r), a) != 0 {
				t.Fatalf("%v by %v: %v, %v", a, b, q, r)
			}
			r.Neg, b.Neg = false, false
			if ok && num.Cmp(r, b) >= 0 {
				t.Fatalf("%v by %v: the rest %v is too great", a, b, r)
			}
		}
		if back, ok := num.Parse(num.Text(a)); !ok || num.Cmp(back, a) != 0 {
			t.Fatalf("Parse(Text(%v)): %v, %v", a, back, ok)
		}
	}
}

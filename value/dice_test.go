package value_test

import (
	"tandem/api"
	"tandem/num"
	"tandem/value"
)

// dice is a row of numbers that is the same in each run.
type dice uint64

func (d *dice) below(n int) int {
	*d ^= *d << 13
	*d ^= *d >> 7
	*d ^= *d << 17
	return int(uint64(*d) >> 11 % uint64(n))
}

func (d *dice) pick(words []uint64) uint64 { return words[d.below(len(words))] }

// number is one near the bounds of fixnums and words, or any.
func (d *dice) number() api.Num {
	n := api.Num{Neg: d.below(2) == 0}
	for range d.below(6) {
		n.Mag = append(n.Mag, []uint32{0, 1, 1 << 29, 1<<32 - 1, 7}[d.below(5)])
	}
	return num.Add(n, num.Of(int64(d.below(3)-1)))
}

func (d *dice) name() string {
	b := make([]byte, d.below(20))
	for i := range b {
		b[i] = []byte{0, 'a', 'b', 255}[d.below(4)]
	}
	return string(b)
}

// datum is one of those that Put lays and Take tells, at most that deep.
func (d *dice) datum(deep int) api.Datum {
	kinds := 6
	if deep > 1 {
		kinds = 10
	}
	switch d.below(kinds) {
	case 0:
		return integer(d.number())
	case 1:
		return boolean(d.below(2))
	case 2:
		return letter(d.below(256))
	case 3:
		return text(d.name())
	case 4:
		return symbol(d.name())
	case 5:
		return void()
	case 6:
		return vector(d.data(deep-1, 0)...)
	case 7:
		// A Rest that is a list would be the chain's own.
		if rest := d.datum(deep - 1); rest.Kind != api.List {
			return dotted(rest, d.data(deep-1, 1)...)
		}
	}
	return list(d.data(deep-1, 0)...)
}

func (d *dice) data(deep, least int) []api.Datum {
	var all []api.Datum
	for range least + d.below(4) {
		all = append(all, d.datum(deep))
	}
	return all
}

// scatter lays objects, most of them pairs and vectors, whose fields point to any of them, and answers words of all kinds.
func (d *dice) scatter(s *value.Store, count int) []uint64 {
	words := []uint64{fix(0), fix(1), False, Empty, char(65), prim(3)}
	var objects []uint64
	for range count {
		w, ok := d.object(s)
		if !ok {
			break
		}
		words, objects = append(words, w), append(objects, w)
	}
	for _, p := range objects {
		for i := range s.Tagged(p) {
			s.Set(p, i, d.pick(words))
		}
	}
	return words
}

func (d *dice) object(s *value.Store) (uint64, bool) {
	switch d.below(12) {
	case 0:
		return s.Text([]byte([]string{"", "a", "abcdefghi"}[d.below(3)]))
	case 1:
		return s.Number([]api.Num{limbs(3), limbs(4), {Neg: true, Mag: []uint32{0, 0, 1}}}[d.below(3)])
	case 2:
		return s.Alloc(1+d.below(10), d.below(4), d.below(4))
	case 3:
		return s.Intern([]string{"", "a", "b"}[d.below(3)])
	case 4, 5, 6:
		return s.Alloc(Vector, d.below(4), 0)
	case 7:
		return s.Alloc(Condition, 3, 0)
	}
	return s.Alloc(Pair, 2, 0)
}

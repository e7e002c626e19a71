package feed_test

import (
	"math"
	"slices"
	"testing"

	"tandem/api"
	"tandem/feed"
)

// callees are callees of all sorts.
func callees() []int { return []int{-1, -2, -3, -9, math.MinInt, 0, 1, 7, math.MaxInt} }

// wantedCallee is the chapter's rule, read as it is written.
func wantedCallee(x, y int) int {
	x, y = max(x, -2), max(y, -2)
	if x == -1 {
		return y
	}
	if y == -1 || x == y {
		return x
	}
	return -2
}

func TestJoin(t *testing.T) {
	masks := []int{0, 1, 2, 6, 1 << 62, math.MinInt, -1, math.MaxInt}
	for _, x := range callees() {
		for _, y := range callees() {
			for _, m := range masks {
				for _, n := range masks {
					got := feed.Join(at(m, x), api.Feed{Proto: 8, Pc: -9, Mask: n, Callee: y})
					if want := at(m|n, wantedCallee(x, y)); got != want {
						t.Fatalf("%d %d, %d %d: %+v, want %+v", m, x, n, y, got, want)
					}
				}
			}
		}
	}
}

// P14.3: the order and how often the same is joined turn nothing.
func TestJoinInAnyOrder(t *testing.T) {
	for _, x := range callees() {
		for _, y := range callees() {
			a, b := at(5, x), at(3, y)
			ab := feed.Join(a, b)
			if feed.Join(b, a) != ab || feed.Join(ab, b) != ab || feed.Join(ab, a) != ab || feed.Join(ab, ab) != ab || feed.Join(b, ab) != ab {
				t.Errorf("%+v, %+v", a, b)
			}
			for _, z := range callees() {
				c := at(1<<62, z)
				if feed.Join(ab, c) != feed.Join(a, feed.Join(b, c)) {
					t.Errorf("%+v, %+v, %+v", a, b, c)
				}
			}
		}
	}
}

// dice are numbers that look like any, and are always the same.
type dice struct{ state uint64 }

func (d *dice) below(n int) int {
	d.state ^= d.state << 13
	d.state ^= d.state >> 7
	d.state ^= d.state << 17
	return int(d.state >> 11 % uint64(n))
}

// sight is something that a table is told: by See, if it has kinds, by Call, or by Add.
type sight struct {
	how   int
	kinds []int
	said  api.Feed
}

const (
	bySee = iota
	byCall
	byAdd
)

func (d *dice) sight() sight {
	s := sight{how: d.below(3), said: api.Feed{Proto: d.below(3) - 1, Pc: d.below(2), Callee: -1}}
	switch s.how {
	case bySee:
		for range d.below(4) {
			s.kinds = append(s.kinds, d.below(66)-2)
		}
	case byCall:
		s.said.Callee = d.below(6) - 2
	case byAdd:
		s.said.Callee, s.said.Mask = d.below(7)-4, d.below(4)
	}
	return s
}

func (s sight) tell(f *feed.Table) {
	switch s.how {
	case bySee:
		f.See(s.said.Proto, s.said.Pc, s.kinds...)
	case byCall:
		f.Call(s.said.Proto, s.said.Pc, s.said.Callee)
	case byAdd:
		f.Add(s.said)
	}
}

// feed is what the sight says by itself.
func (s sight) feed() api.Feed {
	f := s.said
	for _, k := range s.kinds {
		if k > 0 && k < 63 {
			f.Mask |= 1 << k
		}
	}
	if s.how == byCall && f.Callee < 0 {
		f.Callee = -2
	}
	return f
}

// P14.3: a table is the join of all that it saw, whatever the order and however often.
func TestTableIsTheJoin(t *testing.T) {
	d := &dice{14}
	for range 3000 {
		var sights []sight
		for range d.below(12) {
			sights = append(sights, d.sight())
		}
		var want []api.Feed
		for proto := -1; proto <= 1; proto++ {
			for pc := 0; pc <= 1; pc++ {
				joined := api.Feed{Proto: proto, Pc: pc, Callee: -1}
				for _, s := range sights {
					if s.said.Proto == proto && s.said.Pc == pc {
						joined = feed.Join(joined, s.feed())
					}
				}
				if joined.Mask != 0 || joined.Callee != -1 {
					want = append(want, joined)
				}
			}
		}
		for range 3 {
			f := feed.New()
			for _, s := range sights {
				s.tell(f)
				if again := d.below(2); again > 0 {
					sights[d.below(len(sights))].tell(f)
				}
			}
			if got := f.All(); !slices.Equal(got, want) {
				t.Fatalf("%+v: %+v, want %+v", sights, got, want)
			}
			d.shuffle(sights)
		}
	}
}

func (d *dice) shuffle(all []sight) {
	for i := range all {
		j := d.below(i + 1)
		all[i], all[j] = all[j], all[i]
	}
}

// A table that is told all of another's feeds tells the same.
func TestTableOfATable(t *testing.T) {
	d := &dice{41}
	for range 500 {
		a, b := feed.New(), feed.New()
		for range d.below(20) {
			d.sight().tell(a)
		}
		b.Add(a.All()...)
		b.Add(a.All()...)
		if !slices.Equal(a.All(), b.All()) {
			t.Fatalf("%+v, %+v", a.All(), b.All())
		}
	}
}

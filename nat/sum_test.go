package nat

import (
	"math"
	"slices"
	"testing"
)

// P1.1: a sum grows by every carry that leaves it, so that Add is right however many lists it is handed. To have the calls alone tell that, they would have to be handed 2^32 lists.
func TestSumGrows(t *testing.T) {
	const top = math.MaxUint32
	for _, x := range []struct{ sum, a, want []uint32 }{
		{nil, nil, nil},
		{[]uint32{top}, nil, []uint32{top}},
		{[]uint32{top}, []uint32{1}, []uint32{0, 1}},
		{[]uint32{top - 1}, []uint32{1}, []uint32{top}},
		// 2^32 + 1 lists {2^32 - 1}, and the last of 2^32 + 2.
		{[]uint32{top, top}, []uint32{top}, []uint32{top - 1, 0, 1}},
		{[]uint32{top, top, top, top}, []uint32{1}, []uint32{0, 0, 0, 0, 1}},
		{[]uint32{top, top, top - 1}, []uint32{1}, []uint32{0, 0, top}},
	} {
		roomy := append(make([]uint32, 0, len(x.sum)+1), x.sum...)
		for _, sum := range [][]uint32{roomy, slices.Clip(slices.Clone(x.sum))} {
			if got := addGrowing(sum, x.a); !slices.Equal(got, x.want) {
				t.Errorf("%v and %v: %v, want %v", x.sum, x.a, got, x.want)
			}
		}
	}
}

package match

import (
	"slices"

	"tandem/api"
)

// turn is an ellipsis on its way through the Subs of the binds that are deep in its part.
type turn struct {
	deep      []*cursor
	next, all int
}

// repeat adds a part of a row once for each turn of its ellipses. Those that it is within are kept in a list, as binds may be deeper than calls go.
func (f *filler) repeat(whole, part *piece, out *api.Datum) api.Errno {
	var within []turn // the outermost first
	for {
		if len(within) < part.ellipses {
			t, ok := f.turn(part)
			if !ok {
				return api.ErrMatch
			}
			within = append(within, t)
			// Long rows would be copied again and again while they grow.
			out.Items = slices.Grow(out.Items, min(t.all, f.left))
		} else if e := f.add(whole, part, out); e != api.OK {
			return e
		}
		for len(within) > 0 && !within[len(within)-1].goOn() {
			within = within[:len(within)-1]
		}
		if len(within) == 0 {
			return api.OK
		}
	}
}

// turn is an ellipsis ahead of its first turn; false, if no bind is deep in the part, or they have not as many Subs.
func (f *filler) turn(part *piece) (turn, bool) {
	var t turn
	for _, bind := range part.binds {
		c := &f.cursors[bind]
		if c.Depth <= 0 {
			continue
		}
		if len(t.deep) > 0 && len(c.Subs) != t.all {
			return turn{}, false
		}
		t.deep, t.all = append(t.deep, c), len(c.Subs)
	}
	return t, len(t.deep) > 0
}

// goOn lets each bind be its next Sub; false, if there is none: then they are what they were ahead of the first.
func (t *turn) goOn() bool {
	for _, c := range t.deep {
		if t.next > 0 {
			c.leave()
		}
		if t.next < t.all {
			c.enter(t.next)
		}
	}
	t.next++
	return t.next <= t.all
}

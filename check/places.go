package check

// places are those of instructions that are to be looked at. They are laid as a tree, a place ahead of the two below it, which are greater: there may be thousands, and the least one is wanted again and again.
type places []int

func (l *places) put(place int) {
	all := append(*l, place)
	for at := len(all) - 1; at > 0; {
		above := (at - 1) / 2
		if all[above] < all[at] {
			break
		}
		all[above], all[at] = all[at], all[above]
		at = above
	}
	*l = all
}

// take takes the least place off the list, on which there is one.
func (l *places) take() int {
	all := *l
	least, last := all[0], len(all)-1
	all[0] = all[last]
	*l = all[:last]
	l.sink()
	return least
}

// sink brings the first place down to where those below it are greater.
func (l *places) sink() {
	all := *l
	for at := 0; ; {
		least := at
		for below := 2*at + 1; below <= 2*at+2 && below < len(all); below++ {
			if all[below] < all[least] {
				least = below
			}
		}
		if least == at {
			return
		}
		all[at], all[least] = all[least], all[at]
		at = least
	}
}

package regs

import (
	"math"

	"tandem/api"
	"tandem/rcode"
)

// lookout tells where things (registers, or what they hold) are wanted.
type lookout struct {
	paths
	direct [][]int // of each thing, the instructions that read it
	byExit [][]int // of each thing, the exits that read it
	users  [][]int // of each exit, the instructions that may go there
}

// lookoutOf is for so many things, by what instructions and exits read of them. (What an exit reads to which no instruction goes is not asked.)
func lookoutOf(c api.Code, things int, readAt func(i int) []int, readBy func(e api.Exit) []int) *lookout {
	l := &lookout{paths: pathsOf(c.Ins), direct: make([][]int, things), byExit: make([][]int, things), users: make([][]int, len(c.Exits))}
	for i, in := range c.Ins {
		for _, t := range readAt(i) {
			l.direct[t] = append(l.direct[t], i)
		}
		if rcode.MayExit(in.Op) {
			l.users[in.E] = append(l.users[in.E], i)
		}
	}
	for e, users := range l.users {
		if len(users) > 0 {
			for _, t := range readBy(c.Exits[e]) {
				l.byExit[t] = append(l.byExit[t], e)
			}
		}
	}
	return l
}

// isRead tells whether anything reads a thing.
func (l *lookout) isRead(t int) bool { return len(l.direct[t]) > 0 || len(l.byExit[t]) > 0 }

// seek finds the places ahead of which a thing is wanted; false, if there are more than so many.
func (l *lookout) seek(t, most int, isPut func(i, t int) bool) bool {
	l.begin()
	l.add(l.direct[t]...)
	for _, e := range l.byExit[t] {
		l.add(l.users[e]...)
	}
	return l.spread(most, func(i int) bool { return isPut(i, t) })
}

// lists are, for each place, the things that are wanted ahead of it, rising.
func (l *lookout) lists(isPut func(i, t int) bool) [][]int {
	all := make([][]int, len(l.from))
	for t := range l.direct {
		l.seek(t, math.MaxInt, isPut)
		for _, i := range l.found {
			all[i] = append(all[i], t)
		}
	}
	return all
}

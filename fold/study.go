package fold

import "tandem/rcode"

// course is where a run goes on behind an instruction, as far as is known: nowhere, at the next one, where it jumps to, or at any of these.
type course int

const (
	onward course = 1 << iota
	aside
)

// study finds what is known of what registers hold, and what is reached by that. It begins with nothing: a way is gone only when it is known that it may be. What is known grows less, and what hangs on that is looked at again.
type study struct {
	flow
	things    []thing  // of origins
	users     [][]int  // of origins: the origins (instructions, meetings) that hang on them
	courses   []course // of instructions
	isReached []bool
	isUser    []bool  // instructions that are among the users of what they read
	ways      [][]int // of heads: the instructions from which ways that are gone lead there
	joins     [][]int // of heads: the meetings there
	todo      []errand
}

// errand is an origin that is to be looked at: for the first time (since none), or since less is known of another one.
type errand struct{ at, since int }

func (f *folder) study() *study {
	n := len(f.Ins)
	s := &study{
		flow:   f.flow(),
		things: make([]thing, n), users: make([][]int, n), courses: make([]course, n),
		isReached: make([]bool, n), isUser: make([]bool, n), ways: make([][]int, n), joins: make([][]int, n),
	}
	s.reach(0)
	for len(s.todo) > 0 {
		last := len(s.todo) - 1
		e := s.todo[last]
		s.todo = s.todo[:last]
		switch {
		case e.at < n:
			s.look(e.at)
		case e.since == none:
			s.open(e.at)
		default:
			s.note(e.at, s.things[e.since])
		}
	}
	return s
}

func (s *study) reach(i int) {
	if !s.isReached[i] {
		s.isReached[i] = true
		s.todo = append(s.todo, errand{i, none})
	}
}

// look finds what an instruction comes to by what is known of what it reads.
func (s *study) look(i int) {
	in := s.Ins[i]
	var held []thing
	isReady := true
	for _, r := range rcode.Read(in) {
		o := s.asked(s.ahead(i, r))
		if !s.isUser[i] {
			s.users[o] = append(s.users[o], i)
		}
		isReady = isReady && s.things[o].how != unseen
		held = append(held, s.things[o])
	}
	s.isUser[i] = true
	if !isReady {
		return
	}
	t, c := s.outcome(in, held...)
	s.note(i, t)
	s.goOn(i, c)
}

// note keeps what is known of an origin. It only grows less.
func (s *study) note(origin int, t thing) {
	t = meet(s.things[origin], t)
	if t == s.things[origin] {
		return
	}
	s.things[origin] = t
	for _, user := range s.users[origin] {
		s.todo = append(s.todo, errand{user, origin})
	}
}

// goOn goes the ways from an instruction on that were not gone yet.
func (s *study) goOn(i int, c course) {
	fresh := c &^ s.courses[i]
	s.courses[i] |= c
	if fresh&onward != 0 {
		s.goTo(i, i+1)
	}
	if fresh&aside != 0 {
		s.goTo(i, *rcode.Place(&s.Ins[i]))
	}
}

func (s *study) goTo(from, to int) {
	if s.heads[to] == to {
		s.ways[to] = append(s.ways[to], from)
		for _, m := range s.joins[to] {
			s.bring(from, m)
		}
	}
	s.reach(to)
}

// open lets a meeting that was asked for first be brought what ways bring: those that are gone already, and all others when they are.
func (s *study) open(m int) {
	head := s.met(m).head
	s.joins[head] = append(s.joins[head], m)
	if head == 0 {
		s.note(m, anyThing())
	}
	for _, from := range s.ways[head] {
		s.bring(from, m)
	}
}

// bring lets a way bring what its register holds to a meeting.
func (s *study) bring(from, m int) {
	o := s.asked(s.behind(from, s.met(m).register))
	s.users[o] = append(s.users[o], m)
	s.note(m, s.things[o])
}

// asked is an origin; a meeting that nobody asked for yet is opened later: it may stand at the end of many others.
func (s *study) asked(origin int) int {
	if origin == len(s.things) {
		s.things, s.users = append(s.things, thing{}), append(s.users, nil)
		s.todo = append(s.todo, errand{origin, none})
	}
	return origin
}

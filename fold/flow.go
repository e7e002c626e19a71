package fold

import (
	"slices"

	"tandem/api"
	"tandem/rcode"
)

// flow tells where what registers hold comes from. Instructions stand in rows: a way leads into a row at its head alone. An origin is an instruction that writes a register, or a meeting; these are numbered behind the instructions.
type flow struct {
	*folder
	heads    []int   // of each instruction, the head of its row
	writes   [][]int // of each register, the instructions that write it, rising
	meetings []meeting
	numbers  map[meeting]int
}

// meeting is where ways into a row bring what a register holds. At the code's beginning that is also what it holds at first.
type meeting struct{ head, register int }

func (f *folder) flow() flow {
	all := flow{folder: f, heads: headsOf(f.Ins), writes: make([][]int, f.Regs), numbers: map[meeting]int{}}
	for i, in := range f.Ins {
		if r := written(in); r != none {
			all.writes[r] = append(all.writes[r], i)
		}
	}
	return all
}

// headsOf are the heads of all instructions' rows. Behind what has ends or has jumped, and where jumps go, a row begins.
func headsOf(ins []api.RIns) []int {
	isHead := make([]bool, len(ins)+1)
	for i, in := range ins {
		if to := rcode.Place(&in); to != nil {
			isHead[*to] = true
		}
		if !rcode.GoesOn(in.Op) {
			isHead[i+1] = true
		}
	}
	heads := make([]int, len(ins))
	head := 0
	for i := range heads {
		if isHead[i] {
			head = i
		}
		heads[i] = head
	}
	return heads
}

// ahead is the origin of what a register holds ahead of an instruction.
func (f *flow) ahead(i, register int) int {
	n, _ := slices.BinarySearch(f.writes[register], i)
	if n > 0 && f.writes[register][n-1] >= f.heads[i] {
		return f.writes[register][n-1]
	}
	return f.numberOf(meeting{f.heads[i], register})
}

// behind is the origin of what a register holds behind an instruction.
func (f *flow) behind(i, register int) int {
	if written(f.Ins[i]) == register {
		return i
	}
	return f.ahead(i, register)
}

// numberOf is a meeting's number. One that is asked for first comes behind all others.
func (f *flow) numberOf(m meeting) int {
	n, ok := f.numbers[m]
	if !ok {
		n = len(f.Ins) + len(f.meetings)
		f.numbers[m] = n
		f.meetings = append(f.meetings, m)
	}
	return n
}

// met is the meeting of that number.
func (f *flow) met(origin int) meeting { return f.meetings[origin-len(f.Ins)] }

package snap

import (
	"rondeau/api"
	"rondeau/octet"
	"rondeau/varint"
)

// source reads parts of a state, and keeps in mind whether one failed.
type source struct {
	reader *octet.Reader
	failed bool
}

func (in *source) state() api.State {
	var s api.State
	for range in.small(api.MaxThreads) {
		s.Threads = append(s.Threads, in.thread())
	}
	for range in.small(api.MaxRings) {
		s.Rings = append(s.Rings, in.ring())
	}
	s.Now = in.number()
	s.Reads = in.number()
	s.Ended = in.truth()
	return s
}

func (in *source) thread() api.ThreadState {
	t := api.ThreadState{At: in.small(mostSmall), Phase: in.small(mostSmall), Ring: in.small(mostSmall), Status: in.small(mostSmall), Ticket: in.number()}
	for i := range t.Regs {
		t.Regs[i] = in.number()
	}
	t.Seen = in.list(mostSeen)
	return t
}

func (in *source) ring() api.RingState {
	r := api.RingState{Tail: in.number(), Heads: in.list(api.MaxReaders), Closed: in.truth()}
	for range in.small(api.MaxCap) {
		r.Slots = append(r.Slots, api.Slot{Stamp: in.number(), Value: in.number(), Left: in.small(mostSmall)})
	}
	return r
}

// number reads a number; once something failed, all numbers are 0.
func (in *source) number() uint64 {
	n, err := varint.Read(in.reader)
	in.failed = in.failed || err != api.OK
	if in.failed {
		return 0
	}
	return n
}

// small reads a number that is not greater than most.
func (in *source) small(most int) int {
	n := in.number()
	if n > uint64(most) {
		in.failed = true
		return 0
	}
	return int(n)
}

func (in *source) truth() bool { return in.small(1) == 1 }

// list reads a list of at most so many numbers.
func (in *source) list(most int) []uint64 {
	l, err := varint.ReadList(in.reader, most)
	in.failed = in.failed || err != api.OK
	return l
}

package ring

import (
	"rondeau/api"
	"rondeau/slots"
)

// State returns how a ring stands.
func (r *Ring) State() api.RingState {
	if r == nil {
		return api.RingState{}
	}
	s := api.RingState{Tail: r.tail, Closed: r.closed, Slots: r.slots.All()}
	for j := range r.readers {
		s.Heads = append(s.Heads, r.heads[j])
	}
	return s
}

// Load returns a ring that stands so.
func Load(r api.Ring, s api.RingState) (*Ring, api.Errno) {
	made, err := New(r)
	if err != api.OK {
		return nil, err
	}
	loaded, err := slots.Load(r.Cap, r.Readers, s.Slots)
	if err != api.OK || len(s.Heads) != r.Readers {
		return nil, api.ErrForm
	}
	made.slots = *loaded
	made.tail, made.closed = s.Tail, s.Closed
	for j, head := range s.Heads {
		made.heads[j] = head
	}
	if !made.cursorsRight() || !made.slotsRight() {
		return nil, api.ErrForm
	}
	return made, api.OK
}

// cursorsRight tells whether claims and takes can have got there.
func (r *Ring) cursorsRight() bool {
	for j := range r.readers {
		if r.heads[j] > r.tail {
			return false
		}
	}
	return r.tail < 1<<62 && r.tail-r.least() <= r.capacity
}

// slotsRight tells whether what the slots say was claimed and taken.
func (r *Ring) slotsRight() bool {
	for _, slot := range r.slots.All() {
		t := slot.Stamp / 2
		held := slot.Stamp%2 == 1
		if held && (t >= r.tail || !r.passed(t, slot.Left)) {
			return false
		}
		// All readers have got the value that was in a free slot before.
		if !held && t >= r.capacity && !r.passed(t-r.capacity, 0) {
			return false
		}
	}
	return true
}

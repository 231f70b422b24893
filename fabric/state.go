package fabric

import (
	"slices"

	"rondeau/api"
	"rondeau/ring"
	"rondeau/thread"
)

// State returns how all stands.
func (f *Fabric) State() api.State {
	if f == nil {
		return api.State{}
	}
	s := api.State{Now: f.now, Reads: f.reads, Ended: f.ended}
	for t, state := range f.threads {
		state.Seen = slices.Clone(f.seen[t])
		s.Threads = append(s.Threads, state)
	}
	for i := range f.lanes {
		state := f.lanes[i].open.State()
		state.Closed = f.lanes[i].closed
		s.Rings = append(s.Rings, state)
	}
	return s
}

// Load returns a fabric that stands so.
func Load(p api.Program, s api.State) (*Fabric, api.Errno) {
	f, err := New(p)
	if err != api.OK {
		return nil, err
	}
	if len(s.Threads) != len(f.threads) || len(s.Rings) != len(f.lanes) {
		return nil, api.ErrForm
	}
	for i, state := range s.Rings {
		closed := state.Closed
		state.Closed = false
		r, err := ring.Load(p.Rings[i], state)
		if err != api.OK {
			return nil, api.ErrForm
		}
		f.lanes[i] = lane{open: *r, closed: closed}
	}
	for t, state := range s.Threads {
		if !thread.Right(p.Threads[t], state) || !f.gave(t, state) {
			return nil, api.ErrForm
		}
		f.seen[t] = slices.Clone(state.Seen)
		state.Seen = nil
		f.threads[t] = state
	}
	f.now, f.reads, f.ended = s.Now, s.Reads, s.Ended
	return f, api.OK
}

// gave tells whether a ring has given the ticket that a thread holds, if any.
func (f *Fabric) gave(t int, s api.ThreadState) bool {
	s.Seen = nil
	_, ask, _ := thread.Next(f.program.Threads[t], s)
	switch ask.Kind {
	case thread.Publish:
		return ask.Ticket < f.lanes[ask.Ring].open.Tail()
	case thread.Release:
		return ask.Ticket < f.lanes[ask.Ring].open.Head(ask.Reader)
	}
	return true
}

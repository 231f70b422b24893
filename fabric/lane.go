package fabric

import (
	"rondeau/api"
	"rondeau/ring"
	"rondeau/thread"
)

// lane is a ring of the machine. Its ring stays open, and whether it is closed
// is kept beside it: a claim that is fed is performed on a closed ring, too.
type lane struct {
	open   ring.Ring
	closed bool
}

// copy returns an independent ring, closed if the lane is.
func (n *lane) copy() *ring.Ring {
	r := n.open
	if n.closed {
		r.Close()
	}
	return &r
}

// refuses tells whether a send or a receive finds no room or no value.
func (n *lane) refuses(ask thread.Ask) bool {
	if ask.Kind == thread.Send {
		return n.open.Full()
	}
	return n.open.Empty(ask.Reader)
}

// shuts tells whether a send or a receive can never go on.
func (n *lane) shuts(ask thread.Ask) bool {
	return n.closed && (ask.Kind == thread.Send || n.refuses(ask))
}

// can tells whether an event that matches a request is allowed.
func (f *Fabric) can(e api.Event, ask thread.Ask) bool {
	switch e.Kind {
	case api.EClaim:
		return !f.lanes[e.Ring].closed && f.canBeFed(e, ask)
	case api.ENo, api.ETime:
		return !f.lanes[e.Ring].closed && f.lanes[e.Ring].refuses(ask)
	case api.EShut:
		return f.lanes[e.Ring].shuts(ask)
	case api.EClock:
		return e.Value >= f.now && e.Value-f.now < api.Ticks
	case api.ERead:
		return !f.ended
	}
	return f.canBeFed(e, ask)
}

// canBeFed tells whether an event that matches a request can be fed.
func (f *Fabric) canBeFed(e api.Event, ask thread.Ask) bool {
	switch e.Kind {
	case api.EClaim:
		r := &f.lanes[e.Ring].open
		return !r.Full() && e.Ticket == r.Tail()
	case api.EPublish:
		return f.lanes[e.Ring].open.Free(e.Ticket)
	case api.ETake:
		r := &f.lanes[e.Ring].open
		return !r.Empty(ask.Reader) && e.Ticket == r.Head(ask.Reader)
	case api.ERelease:
		return f.lanes[e.Ring].open.Has(ask.Reader, e.Ticket)
	case api.EClose:
		return e.Ticket == f.lanes[e.Ring].open.Tail()
	}
	return true
}

// move performs an event on all but its thread, and returns the value that it
// released.
func (f *Fabric) move(e api.Event, ask thread.Ask) uint64 {
	switch e.Kind {
	case api.EClaim:
		f.lanes[e.Ring].open.Claim()
	case api.EPublish:
		f.lanes[e.Ring].open.Publish(e.Ticket, ask.Value)
	case api.ETake:
		f.lanes[e.Ring].open.Take(ask.Reader)
	case api.ERelease:
		v, _ := f.lanes[e.Ring].open.Release(ask.Reader, e.Ticket)
		return v
	case api.EClose:
		f.lanes[e.Ring].closed = true
	case api.EClock:
		f.now = max(f.now, e.Value)
	case api.ERead:
		f.reads++
	case api.EEnd:
		f.ended = true
	}
	return 0
}

package world

import (
	"rondeau/api"
	"rondeau/fabric"
	"rondeau/ring"
	"rondeau/thread"
)

// offer returns the event that an entry causes on a fabric; reads tells how
// many numbers have been read, which is costly to ask of the fabric.
func offer(f *fabric.Fabric, tape []uint64, e api.Entry, reads func() uint64) (api.Event, bool) {
	ask, err := f.Ask(e.Pick)
	if err != api.OK {
		return api.Event{}, false
	}
	event := api.Event{Thread: e.Pick, Ring: ask.Ring}
	switch ask.Kind {
	case thread.Send:
		event = send(event, f.Ring(ask.Ring), ask, e.Fire)
	case thread.Recv:
		event = receive(event, f.Ring(ask.Ring), ask, e.Fire)
	case thread.Publish:
		event.Kind, event.Ticket = api.EPublish, ask.Ticket
	case thread.Release:
		event.Kind, event.Ticket = api.ERelease, ask.Ticket
	case thread.Close:
		event.Kind, event.Ticket = api.EClose, f.Ring(ask.Ring).Tail()
	case thread.Clock:
		event.Kind, event.Value = api.EClock, f.Now()+e.Clock%api.Ticks
	case thread.Draw:
		event.Kind, event.Value = api.EDraw, e.Draw
	case thread.Read:
		event = read(f, event, tape, reads())
	case thread.See:
		event.Kind, event.Value = api.ESee, ask.Value
	case thread.Halt:
		event.Kind = api.EHalt
	case thread.Spin:
		event.Kind = api.ESpin
	}
	// Where there is nothing to do, or not now, the event is not allowed.
	if !f.Allowed(event) {
		return api.Event{}, false
	}
	return event, true
}

// send is what a request to send comes to; an event without a kind is none.
func send(event api.Event, r *ring.Ring, ask thread.Ask, fire bool) api.Event {
	switch {
	case r.Closed():
		event.Kind = api.EShut
	case !r.Full():
		event.Kind, event.Ticket = api.EClaim, r.Tail()
	default:
		event.Kind = refused(ask.Mode, fire)
	}
	return event
}

// receive is what a request to receive comes to.
func receive(event api.Event, r *ring.Ring, ask thread.Ask, fire bool) api.Event {
	switch {
	case !r.Empty(ask.Reader):
		event.Kind, event.Ticket = api.ETake, r.Head(ask.Reader)
	case r.Closed():
		event.Kind = api.EShut
	default:
		event.Kind = refused(ask.Mode, fire)
	}
	return event
}

// refused returns the kind of event where there is no room or no value.
func refused(mode int, fire bool) int {
	switch {
	case mode == api.MTry:
		return api.ENo
	case mode == api.MTimed && fire:
		return api.ETime
	}
	return 0
}

// read is what a request to read comes to: the next number of the tape, as
// long as there is one and the tape has not ended.
func read(f *fabric.Fabric, event api.Event, tape []uint64, reads uint64) api.Event {
	next := event
	next.Kind = api.ERead
	if reads < uint64(len(tape)) {
		next.Value = tape[reads]
		if f.Allowed(next) {
			return next
		}
	}
	event.Kind = api.EEnd
	return event
}

package chunk

import (
	"rondeau/api"
	"rondeau/delta"
	"rondeau/event"
	"rondeau/octet"
	"rondeau/runs"
)

// stream is one field of a thread's events: which kinds use it, how it is got
// and set, and how the list of its numbers is encoded.
type stream struct {
	uses  func(kind int) bool
	get   func(e api.Event) uint64
	set   func(e *api.Event, n uint64)
	print func(l []uint64) string
	read  func(r *octet.Reader, most int) ([]uint64, api.Errno)
}

// kinds is the stream of Kinds, which all events have.
func kinds() stream {
	return stream{
		uses:  func(int) bool { return true },
		get:   func(e api.Event) uint64 { return uint64(e.Kind) },
		set:   func(e *api.Event, n uint64) { e.Kind = small(n) },
		print: runs.Print,
		read:  runs.Read,
	}
}

// fields are the streams that depend on the Kinds.
func fields() []stream {
	return []stream{
		{
			uses:  event.Rings,
			get:   func(e api.Event) uint64 { return uint64(e.Ring) },
			set:   func(e *api.Event, n uint64) { e.Ring = small(n) },
			print: runs.Print,
			read:  runs.Read,
		},
		{
			uses:  usesField(api.Event{Ticket: 1}),
			get:   func(e api.Event) uint64 { return e.Ticket },
			set:   func(e *api.Event, n uint64) { e.Ticket = n },
			print: delta.Print,
			read:  delta.Read,
		},
		{
			uses:  usesField(api.Event{Value: 1}),
			get:   func(e api.Event) uint64 { return e.Value },
			set:   func(e *api.Event, n uint64) { e.Value = n },
			print: delta.Print,
			read:  delta.Read,
		},
	}
}

// usesField returns what tells whether a kind uses the one field of a sample
// that is not 0: if it does, the sample is a valid event of that kind.
func usesField(sample api.Event) func(kind int) bool {
	return func(kind int) bool {
		e := sample
		e.Kind = kind
		return event.Right(e)
	}
}

// printThread appends the streams of a thread's events.
func printThread(w *octet.Writer, own []api.Event) {
	kinds().printAll(w, own)
	for _, s := range fields() {
		s.printAll(w, own)
	}
}

// readThread reads the streams of so many events of a thread.
func readThread(r *octet.Reader, count int) ([]api.Event, bool) {
	own := make([]api.Event, count)
	if !kinds().readAll(r, own) {
		return nil, false
	}
	for _, s := range fields() {
		if !s.readAll(r, own) {
			return nil, false
		}
	}
	return own, true
}

// printAll appends a stream of events.
func (s stream) printAll(w *octet.Writer, own []api.Event) {
	var l []uint64
	for _, e := range own {
		if s.uses(e.Kind) {
			l = append(l, s.get(e))
		}
	}
	w.Text(s.print(l))
}

// readAll reads a stream into the events that use it; it must have just as
// many numbers.
func (s stream) readAll(r *octet.Reader, own []api.Event) bool {
	l, err := s.read(r, len(own))
	if err != api.OK {
		return false
	}
	next := 0
	for i := range own {
		if !s.uses(own[i].Kind) {
			continue
		}
		if next == len(l) {
			return false
		}
		s.set(&own[i], l[next])
		next++
	}
	return next == len(l)
}

package order

import (
	"slices"

	"rondeau/api"
)

// step is what an event did with a ticket. Sends have no reader.
type step struct {
	kind, ring, reader int
	ticket             uint64
}

// book knows where the steps of a record are, and the last event of each thread.
type book struct {
	rings []api.Ring
	steps map[step]int
	last  [api.MaxThreads]int
}

func newBook(rings []api.Ring) *book {
	b := &book{rings: rings, steps: map[step]int{}}
	for t := range b.last {
		b.last[t] = -1
	}
	return b
}

// note keeps in mind that an event is at index i.
func (b *book) note(e api.Event, reader, i int) {
	b.last[e.Thread] = i
	switch e.Kind {
	case api.EClaim, api.EPublish:
		b.steps[step{kind: e.Kind, ring: e.Ring, ticket: e.Ticket}] = i
	case api.ETake, api.ERelease:
		b.steps[step{kind: e.Kind, ring: e.Ring, reader: reader, ticket: e.Ticket}] = i
	}
}

// needs returns the direct dependencies of the event that comes next.
func (b *book) needs(e api.Event, reader int) []int {
	var list []int
	if last := b.last[e.Thread]; last >= 0 {
		list = append(list, last)
	}
	for _, s := range b.stepsBefore(e, reader) {
		if i, ok := b.steps[s]; ok {
			list = append(list, i)
		}
	}
	slices.Sort(list)
	return slices.Compact(list)
}

// stepsBefore returns the steps on its ring that an event depends on.
func (b *book) stepsBefore(e api.Event, reader int) []step {
	switch e.Kind {
	case api.EClaim:
		return append(b.passed(api.ETake, e), before(api.EClaim, e, 0)...)
	case api.EPublish:
		return b.passed(api.ERelease, e)
	case api.ETake:
		return append(before(api.ETake, e, reader), step{kind: api.EClaim, ring: e.Ring, ticket: e.Ticket})
	case api.ERelease:
		return []step{{kind: api.EPublish, ring: e.Ring, ticket: e.Ticket}}
	case api.EClose:
		return before(api.EClaim, e, 0)
	}
	return nil
}

// before returns the step of a kind with the ticket before that of an event,
// if there is one.
func before(kind int, e api.Event, reader int) []step {
	if e.Ticket == 0 {
		return nil
	}
	return []step{{kind: kind, ring: e.Ring, reader: reader, ticket: e.Ticket - 1}}
}

// passed returns each reader's step of a kind with the ticket that had the
// slot of an event's ticket before, if there is one.
func (b *book) passed(kind int, e api.Event) []step {
	ring := b.rings[e.Ring]
	if e.Ticket < uint64(ring.Cap) {
		return nil
	}
	var steps []step
	for reader := range ring.Readers {
		steps = append(steps, step{kind: kind, ring: e.Ring, reader: reader, ticket: e.Ticket - uint64(ring.Cap)})
	}
	return steps
}

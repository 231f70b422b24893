package ring_test

import (
	"math/rand"
	"reflect"
	"slices"
	"testing"

	"rondeau/api"
	"rondeau/ring"
)

const (
	last = 1<<62 - 1
	top  = 1<<64 - 1
)

func must(t *testing.T, kind, capacity, readers int) *ring.Ring {
	t.Helper()
	r, e := ring.New(api.Ring{Kind: kind, Cap: capacity, Readers: readers})
	if e != api.OK {
		t.Fatal(kind, capacity, readers, e)
	}
	return r
}

// P13.1: which rings there are.
func TestNew(t *testing.T) {
	for _, s := range []struct {
		ring api.Ring
		want api.Errno
	}{
		{api.Ring{Kind: 1, Cap: 1, Readers: 1}, api.OK}, {api.Ring{Kind: 1, Cap: 64, Readers: 1}, api.OK},
		{api.Ring{Kind: 2, Cap: 1, Readers: 1}, api.OK}, {api.Ring{Kind: 2, Cap: 64, Readers: 8}, api.OK},
		{api.Ring{Kind: 1, Cap: 1, Readers: 2}, api.ErrArg}, {api.Ring{Kind: 1, Cap: 1, Readers: 0}, api.ErrArg},
		{api.Ring{Kind: 1, Cap: 0, Readers: 1}, api.ErrArg}, {api.Ring{Kind: 1, Cap: 65, Readers: 1}, api.ErrArg},
		{api.Ring{Kind: 2, Cap: 1, Readers: 0}, api.ErrArg}, {api.Ring{Kind: 2, Cap: 1, Readers: 9}, api.ErrArg},
		{api.Ring{Kind: 2, Cap: -1, Readers: 1}, api.ErrArg}, {api.Ring{Kind: 0, Cap: 1, Readers: 1}, api.ErrArg},
		{api.Ring{Kind: 3, Cap: 1, Readers: 1}, api.ErrArg}, {api.Ring{}, api.ErrArg},
	} {
		if r, e := ring.New(s.ring); e != s.want || (r == nil) != (e != api.OK) {
			t.Error(s, e)
		}
		if r, e := ring.Load(s.ring, api.RingState{}); s.want != api.OK && (r != nil || e != api.ErrArg) {
			t.Error(s, e)
		}
	}
	r := must(t, 2, 3, 2)
	want := api.RingState{Heads: []uint64{0, 0}, Slots: []api.Slot{{}, {Stamp: 2}, {Stamp: 4}}}
	if got := r.State(); !reflect.DeepEqual(got, want) {
		t.Error(got)
	}
	if r.Full() || !r.Empty(0) || !r.Empty(1) || r.Closed() || r.Tail() != 0 || r.Head(0) != 0 {
		t.Error(r.State())
	}
}

// P13.1: the two steps of sends and receives on a queue.
func TestSteps(t *testing.T) {
	r := must(t, 1, 1, 1)
	if n, e := r.Take(0); n != 0 || e != api.ErrEmpty {
		t.Error(n, e)
	}
	if e := r.Publish(0, 7); e != api.ErrOrder {
		t.Error(e)
	}
	if n, e := r.Claim(); n != 0 || e != api.OK || !r.Full() || r.Empty(0) || r.Tail() != 1 {
		t.Error(n, e)
	}
	if n, e := r.Claim(); n != 0 || e != api.ErrFull {
		t.Error(n, e)
	}
	if v, e := r.Release(0, 0); v != 0 || e != api.ErrOrder {
		t.Error(v, e)
	}
	if n, e := r.Take(0); n != 0 || e != api.OK || r.Head(0) != 1 || !r.Empty(0) || r.Full() {
		t.Error(n, e)
	}
	if !r.Free(0) || r.Free(1) || r.Has(0, 0) {
		t.Error(r.State())
	}
	if v, e := r.Release(0, 0); v != 0 || e != api.ErrEmpty {
		t.Error(v, e)
	}
	if e := r.Publish(0, 7); e != api.OK || r.Free(0) || !r.Has(0, 0) {
		t.Error(e)
	}
	if n, e := r.Claim(); n != 1 || e != api.OK {
		t.Error(n, e)
	}
	if e := r.Publish(1, 8); e != api.ErrFull || r.Free(1) {
		t.Error(e)
	}
	if v, e := r.Release(0, 0); v != 7 || e != api.OK {
		t.Error(v, e)
	}
	if e := r.Publish(1, 8); e != api.OK {
		t.Error(e)
	}
	if e := r.Publish(1, 9); e != api.ErrOrder {
		t.Error(e)
	}
	if e := r.Publish(0, 9); e != api.ErrOrder {
		t.Error(e)
	}
	want := api.RingState{Tail: 2, Heads: []uint64{1}, Slots: []api.Slot{{Stamp: 3, Value: 8, Left: 1}}}
	if got := r.State(); !reflect.DeepEqual(got, want) {
		t.Error(got)
	}
}

// P13.1: a closed ring takes no claims, but what was claimed goes on.
func TestClose(t *testing.T) {
	r := must(t, 1, 1, 1)
	r.Claim()
	if e := r.Close(); e != api.OK || !r.Closed() {
		t.Error(e)
	}
	if e := r.Close(); e != api.OK {
		t.Error(e)
	}
	if n, e := r.Claim(); n != 0 || e != api.ErrClosed {
		t.Error(n, e) // before ErrFull
	}
	if e := r.Publish(0, 7); e != api.OK {
		t.Error(e)
	}
	if n, e := r.Take(0); n != 0 || e != api.OK {
		t.Error(n, e)
	}
	if n, e := r.Take(0); n != 0 || e != api.ErrClosed {
		t.Error(n, e)
	}
	if v, e := r.Release(0, 0); v != 7 || e != api.OK {
		t.Error(v, e)
	}
	if _, e := r.Claim(); e != api.ErrClosed {
		t.Error(e)
	}
	if !r.State().Closed {
		t.Error(r.State())
	}
}

// P13.1, P13.2: readers that do not exist.
func TestNoReader(t *testing.T) {
	r := must(t, 2, 2, 2)
	r.Claim()
	r.Publish(0, 5)
	r.Take(0)
	r.Close()
	for _, j := range []int{-1, 2, 8, 64, -1 << 63} {
		if n, e := r.Take(j); n != 0 || e != api.ErrArg {
			t.Error(j, n, e)
		}
		if v, e := r.Release(j, 9); v != 0 || e != api.ErrArg {
			t.Error(j, v, e)
		}
		if !r.Empty(j) || r.Has(j, 0) || r.Head(j) != 0 {
			t.Error(j)
		}
	}
}

// P13.1: readers of a multicast ring go on independently.
func TestCast(t *testing.T) {
	r := must(t, 2, 2, 2)
	for i := range 2 {
		r.Claim()
		r.Publish(uint64(i), uint64(10+i))
	}
	for i := range 2 {
		if n, e := r.Take(1); n != uint64(i) || e != api.OK {
			t.Error(n, e)
		}
		if v, e := r.Release(1, uint64(i)); v != uint64(10+i) || e != api.OK {
			t.Error(v, e)
		}
	}
	if !r.Full() || !r.Empty(1) || r.Empty(0) || r.Head(1) != 2 {
		t.Error(r.State())
	}
	if _, e := r.Claim(); e != api.ErrFull {
		t.Error(e)
	}
	if _, e := r.Release(1, 0); e != api.ErrOrder || r.Has(1, 0) {
		t.Error(e)
	}
	r.Take(0)
	if r.Full() {
		t.Error(r.State())
	}
	if n, e := r.Claim(); n != 2 || e != api.OK || r.Free(2) {
		t.Error(n, e)
	}
	if v, e := r.Release(0, 0); v != 10 || e != api.OK || !r.Free(2) {
		t.Error(v, e)
	}
}

// P13.1: a nil ring.
func TestNil(t *testing.T) {
	var r *ring.Ring
	n1, e1 := r.Claim()
	n2, e2 := r.Take(-1)
	n3, e3 := r.Release(-1, top)
	if n1 != 0 || n2 != 0 || n3 != 0 || e1 != api.ErrNil || e2 != api.ErrNil || e3 != api.ErrNil || r.Publish(top, 0) != api.ErrNil || r.Close() != api.ErrNil {
		t.Error(e1, e2, e3)
	}
	if r.Full() || r.Empty(0) || r.Empty(-1) || r.Free(0) || r.Has(0, 0) || r.Closed() || r.Tail() != 0 || r.Head(0) != 0 {
		t.Error("nil has something")
	}
	if got := r.State(); !reflect.DeepEqual(got, api.RingState{}) {
		t.Error(got)
	}
}

// P13.3: states that can be, and ones that can't.
func TestLoad(t *testing.T) {
	queue := api.Ring{Kind: 1, Cap: 2, Readers: 1}
	cast := api.Ring{Kind: 2, Cap: 2, Readers: 2}
	single := api.Ring{Kind: 1, Cap: 1, Readers: 1}
	h := func(l ...uint64) []uint64 { return l }
	fresh := []api.Slot{{}, {Stamp: 2}}
	for i, s := range []struct {
		ring  api.Ring
		state api.RingState
		want  api.Errno
	}{
		{queue, api.RingState{Heads: h(0), Slots: fresh}, api.OK},
		{queue, api.RingState{Heads: h(0), Slots: fresh, Closed: true}, api.OK},
		{queue, api.RingState{Slots: fresh}, api.ErrForm},
		{queue, api.RingState{Heads: h(0, 0), Slots: fresh}, api.ErrForm},
		{cast, api.RingState{Heads: h(0), Slots: fresh}, api.ErrForm},
		{cast, api.RingState{Heads: h(0, 0), Slots: fresh}, api.OK},
		{queue, api.RingState{Heads: h(0), Slots: fresh[:1]}, api.ErrForm},
		{queue, api.RingState{Heads: h(1), Slots: fresh}, api.ErrForm},
		{cast, api.RingState{Tail: 1, Heads: h(0, 2), Slots: fresh}, api.ErrForm},
		{queue, api.RingState{Tail: 2, Heads: h(0), Slots: fresh}, api.OK},
		{queue, api.RingState{Tail: 3, Heads: h(0), Slots: fresh}, api.ErrForm},
		{queue, api.RingState{Tail: 3, Heads: h(1), Slots: fresh}, api.OK},
		{cast, api.RingState{Tail: 3, Heads: h(3, 0), Slots: fresh}, api.ErrForm},
		{cast, api.RingState{Tail: 3, Heads: h(3, 1), Slots: fresh}, api.OK},
		// A value that is held was claimed.
		{queue, api.RingState{Tail: 0, Heads: h(0), Slots: []api.Slot{{Stamp: 1, Left: 1}, {Stamp: 2}}}, api.ErrForm},
		{queue, api.RingState{Tail: 1, Heads: h(0), Slots: []api.Slot{{Stamp: 1, Left: 1}, {Stamp: 2}}}, api.OK},
		{queue, api.RingState{Tail: 1, Heads: h(0), Slots: []api.Slot{{}, {Stamp: 3, Left: 1}}}, api.ErrForm},
		{queue, api.RingState{Tail: 2, Heads: h(0), Slots: []api.Slot{{}, {Stamp: 3, Left: 1}}}, api.OK},
		// Who has got a value has taken it.
		{cast, api.RingState{Tail: 1, Heads: h(0, 0), Slots: []api.Slot{{Stamp: 1, Left: 3}, {Stamp: 2}}}, api.OK},
		{cast, api.RingState{Tail: 1, Heads: h(0, 0), Slots: []api.Slot{{Stamp: 1, Left: 2}, {Stamp: 2}}}, api.ErrForm},
		{cast, api.RingState{Tail: 1, Heads: h(1, 0), Slots: []api.Slot{{Stamp: 1, Left: 2}, {Stamp: 2}}}, api.OK},
		{cast, api.RingState{Tail: 1, Heads: h(1, 0), Slots: []api.Slot{{Stamp: 1, Left: 1}, {Stamp: 2}}}, api.ErrForm},
		{cast, api.RingState{Tail: 1, Heads: h(1, 1), Slots: []api.Slot{{Stamp: 1, Left: 1}, {Stamp: 2}}}, api.OK},
		// All have taken what was in a free slot.
		{queue, api.RingState{Tail: 1, Heads: h(0), Slots: []api.Slot{{Stamp: 4}, {Stamp: 2}}}, api.ErrForm},
		{queue, api.RingState{Tail: 1, Heads: h(1), Slots: []api.Slot{{Stamp: 4}, {Stamp: 2}}}, api.OK},
		{cast, api.RingState{Tail: 1, Heads: h(1, 0), Slots: []api.Slot{{Stamp: 4}, {Stamp: 2}}}, api.ErrForm},
		{cast, api.RingState{Tail: 1, Heads: h(1, 1), Slots: []api.Slot{{Stamp: 4}, {Stamp: 2}}}, api.OK},
		{queue, api.RingState{Tail: 2, Heads: h(1), Slots: []api.Slot{{Stamp: 4}, {Stamp: 6}}}, api.ErrForm},
		{queue, api.RingState{Tail: 2, Heads: h(2), Slots: []api.Slot{{Stamp: 8}, {Stamp: 6}}}, api.ErrForm},
		// Slots that can't be.
		{queue, api.RingState{Heads: h(0), Slots: []api.Slot{{Value: 1}, {Stamp: 2}}}, api.ErrForm},
		{queue, api.RingState{Tail: 1, Heads: h(0), Slots: []api.Slot{{Stamp: 1, Left: 2}, {Stamp: 2}}}, api.ErrForm},
		// The last tickets.
		{single, api.RingState{Tail: last, Heads: h(last), Slots: []api.Slot{{Stamp: 1<<63 - 2}}}, api.OK},
		{single, api.RingState{Tail: last + 1, Heads: h(last + 1), Slots: []api.Slot{{Stamp: 1<<63 - 2}}}, api.ErrForm},
		{single, api.RingState{Tail: top, Heads: h(top), Slots: []api.Slot{{Stamp: 1<<63 - 2}}}, api.ErrForm},
		// Old slots: nothing has been put since.
		{single, api.RingState{Tail: 9, Heads: h(9), Slots: []api.Slot{{}}}, api.OK},
	} {
		r, e := ring.Load(s.ring, s.state)
		if e != s.want || (r == nil) != (e != api.OK) {
			t.Error(i, s, e)
		}
		if e == api.OK && !reflect.DeepEqual(r.State(), s.state) {
			t.Error(i, s, r.State())
		}
	}
}

// P13.3, rule 5: neither arguments nor results are shared.
func TestNothingIsShared(t *testing.T) {
	s := api.RingState{Heads: []uint64{0}, Slots: []api.Slot{{}}}
	r, _ := ring.Load(api.Ring{Kind: 1, Cap: 1, Readers: 1}, s)
	s.Heads[0], s.Slots[0].Stamp = 9, 9
	got := r.State()
	got.Heads[0], got.Slots[0].Stamp = 9, 9
	if got := r.State(); got.Heads[0] != 0 || got.Slots[0].Stamp != 0 {
		t.Error(got)
	}
}

// P13.4: tickets are claimed and taken in order, never more than Cap ahead,
// what is released was published, and each state can be loaded again.
func TestTickets(t *testing.T) {
	random := rand.New(rand.NewSource(13))
	for range 60 {
		spec := api.Ring{Kind: 2, Cap: 1 + random.Intn(3), Readers: 1 + random.Intn(3)}
		r, _ := ring.New(spec)
		published := map[uint64]uint64{}
		var claimed uint64
		taken := make([]uint64, spec.Readers)
		for range 300 {
			j, ticket := random.Intn(spec.Readers), uint64(random.Intn(int(claimed)+2))
			switch random.Intn(5) {
			case 0:
				full := r.Full()
				n, e := r.Claim()
				if full != (e != api.OK) || e == api.OK && n != claimed {
					t.Fatal(n, e, claimed)
				}
				if e == api.OK {
					claimed++
				}
				if claimed-slices.Min(taken) > uint64(spec.Cap) {
					t.Fatal(claimed, taken)
				}
			case 1:
				free, v := r.Free(ticket), random.Uint64()
				if e := r.Publish(ticket, v); free != (e == api.OK) {
					t.Fatal(ticket, e)
				} else if e == api.OK {
					published[ticket] = v
				}
			case 2:
				empty := r.Empty(j)
				n, e := r.Take(j)
				if empty != (e != api.OK) || e == api.OK && n != taken[j] {
					t.Fatal(n, e, taken)
				}
				if e == api.OK {
					taken[j]++
				}
			case 3:
				has := r.Has(j, ticket)
				v, e := r.Release(j, ticket)
				if has != (e == api.OK) || e == api.OK && v != published[ticket] {
					t.Fatal(ticket, v, e)
				}
			case 4:
				again, e := ring.Load(spec, r.State())
				if e != api.OK {
					t.Fatal(r.State(), e)
				}
				r = again
			}
		}
	}
}

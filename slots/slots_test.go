package slots_test

import (
	"math/rand"
	"slices"
	"testing"

	"rondeau/api"
	"rondeau/slots"
)

const (
	last   = 1<<62 - 1
	top    = 1<<64 - 1
	finish = 1 << 62
)

func must(t *testing.T, places, readers int) *slots.Slots {
	t.Helper()
	s, e := slots.New(places, readers)
	if e != api.OK {
		t.Fatal(places, readers, e)
	}
	return s
}

// P12.1: how many slots and readers there may be.
func TestNew(t *testing.T) {
	for _, s := range []struct {
		places, readers int
		want            api.Errno
	}{
		{1, 1, api.OK}, {64, 8, api.OK}, {0, 1, api.ErrArg}, {65, 1, api.ErrArg}, {1, 0, api.ErrArg}, {1, 9, api.ErrArg},
		{-1, 1, api.ErrArg}, {1, -1, api.ErrArg}, {1<<63 - 1, 1, api.ErrArg},
	} {
		if got, e := slots.New(s.places, s.readers); e != s.want || (got == nil) != (e != api.OK) {
			t.Error(s, e)
		}
	}
	if got := must(t, 3, 2).All(); !slices.Equal(got, []api.Slot{{}, {Stamp: 2}, {Stamp: 4}}) {
		t.Error(got)
	}
}

// P12.1: a slot goes from one of its tickets to the next.
func TestTurns(t *testing.T) {
	s := must(t, 2, 1)
	if e := s.Put(2, 7); e != api.ErrFull {
		t.Error(e)
	}
	if !s.Free(0) || !s.Free(1) || s.Free(2) || s.Has(0, 0) {
		t.Error("the first condition")
	}
	if v, e := s.Get(0, 0); v != 0 || e != api.ErrEmpty {
		t.Error(v, e)
	}
	if e := s.Put(0, 7); e != api.OK {
		t.Error(e)
	}
	if s.Free(0) || s.Free(2) || !s.Has(0, 0) || s.Has(0, 2) || s.Has(0, 1) {
		t.Error("after Put")
	}
	if e := s.Put(0, 8); e != api.ErrOrder {
		t.Error(e)
	}
	if e := s.Put(2, 8); e != api.ErrFull {
		t.Error(e)
	}
	if _, e := s.Get(0, 2); e != api.ErrEmpty {
		t.Error(e)
	}
	if v, e := s.Get(0, 0); v != 7 || e != api.OK {
		t.Error(v, e)
	}
	if !s.Free(2) || s.Free(0) || s.Has(0, 0) {
		t.Error("after Get")
	}
	if _, e := s.Get(0, 0); e != api.ErrOrder {
		t.Error(e)
	}
	if e := s.Put(0, 9); e != api.ErrOrder {
		t.Error(e)
	}
	if got := s.All(); !slices.Equal(got, []api.Slot{{Stamp: 4}, {Stamp: 2}}) {
		t.Error(got)
	}
}

// P12.1: each reader gets a value once, and the last one frees the slot.
func TestReaders(t *testing.T) {
	s := must(t, 1, 3)
	s.Put(0, top)
	if got := s.All(); !slices.Equal(got, []api.Slot{{Stamp: 1, Value: top, Left: 7}}) {
		t.Error(got)
	}
	if v, e := s.Get(1, 0); v != top || e != api.OK {
		t.Error(v, e)
	}
	if got := s.All(); !slices.Equal(got, []api.Slot{{Stamp: 1, Value: top, Left: 5}}) {
		t.Error(got)
	}
	if v, e := s.Get(1, 0); v != 0 || e != api.ErrOrder || s.Has(1, 0) || !s.Has(0, 0) || !s.Has(2, 0) {
		t.Error(v, e)
	}
	s.Get(2, 0)
	if e := s.Put(1, 5); e != api.ErrFull {
		t.Error(e)
	}
	s.Get(0, 0)
	if got := s.All(); !slices.Equal(got, []api.Slot{{Stamp: 2}}) || !s.Free(1) {
		t.Error(got)
	}
}

// P12.1: what is no ticket and no reader.
func TestArguments(t *testing.T) {
	s := must(t, 1, 2)
	for _, ticket := range []uint64{finish, 1 << 63, top, 1<<63 + 1} {
		if e := s.Put(ticket, 1); e != api.ErrArg {
			t.Error(ticket, e)
		}
		if _, e := s.Get(0, ticket); e != api.ErrArg {
			t.Error(ticket, e)
		}
		if s.Free(ticket) || s.Has(0, ticket) {
			t.Error(ticket)
		}
	}
	s.Put(0, 1)
	for _, reader := range []int{-1, 2, 64, -1 << 63} {
		if _, e := s.Get(reader, 0); e != api.ErrArg || s.Has(reader, 0) {
			t.Error(reader, e)
		}
	}
	if _, e := s.Get(0, last); e != api.ErrEmpty {
		t.Error(e)
	}
	if e := s.Put(last, 1); e != api.ErrFull {
		t.Error(e)
	}
}

// P12.1: a nil object.
func TestNil(t *testing.T) {
	var s *slots.Slots
	if s.Free(0) || s.Has(0, 0) || len(s.All()) != 0 {
		t.Error("nil has something")
	}
	if e := s.Put(finish, 0); e != api.ErrNil {
		t.Error(e)
	}
	if v, e := s.Get(-1, finish); v != 0 || e != api.ErrNil {
		t.Error(v, e)
	}
}

// P12.2: conditions that can be, and ones that can't.
func TestLoad(t *testing.T) {
	for _, s := range []struct {
		places, readers int
		list            []api.Slot
		want            api.Errno
	}{
		{0, 1, nil, api.ErrArg}, {1, 9, nil, api.ErrArg},
		{1, 1, nil, api.ErrForm}, {2, 1, []api.Slot{{}}, api.ErrForm}, {1, 1, []api.Slot{{}, {Stamp: 2}}, api.ErrForm},
		{2, 1, []api.Slot{{}, {Stamp: 2}}, api.OK},
		{2, 1, []api.Slot{{Stamp: 2}, {Stamp: 2}}, api.ErrForm},
		{2, 1, []api.Slot{{Stamp: 4}, {}}, api.ErrForm},
		{2, 1, []api.Slot{{Stamp: 40}, {Stamp: 6}}, api.OK},
		{2, 1, []api.Slot{{Stamp: 41, Value: 3, Left: 1}, {Stamp: 6}}, api.OK},
		{2, 1, []api.Slot{{Stamp: 40, Value: 3}, {Stamp: 6}}, api.ErrForm},
		{2, 1, []api.Slot{{Stamp: 40, Left: 1}, {Stamp: 6}}, api.ErrForm},
		{2, 1, []api.Slot{{Stamp: 41, Value: 3, Left: 0}, {Stamp: 6}}, api.ErrForm},
		{2, 1, []api.Slot{{Stamp: 41, Value: 3, Left: 2}, {Stamp: 6}}, api.ErrForm},
		{2, 1, []api.Slot{{Stamp: 41, Value: 3, Left: 3}, {Stamp: 6}}, api.ErrForm},
		{2, 2, []api.Slot{{Stamp: 41, Value: 3, Left: 3}, {Stamp: 6}}, api.OK},
		{2, 2, []api.Slot{{Stamp: 41, Value: 3, Left: 2}, {Stamp: 6}}, api.OK},
		{2, 2, []api.Slot{{Stamp: 41, Value: 3, Left: -1}, {Stamp: 6}}, api.ErrForm},
		{2, 2, []api.Slot{{Stamp: 41, Value: 3, Left: 4}, {Stamp: 6}}, api.ErrForm},
		{1, 8, []api.Slot{{Stamp: 1, Left: 255}}, api.OK},
		{1, 8, []api.Slot{{Stamp: 1, Left: 256}}, api.ErrForm},
		{1, 1, []api.Slot{{Stamp: 1<<63 - 1, Left: 1}}, api.OK},
		{1, 1, []api.Slot{{Stamp: 1<<63 - 2}}, api.OK},
		{1, 1, []api.Slot{{Stamp: 1 << 63}}, api.ErrForm},
		{1, 1, []api.Slot{{Stamp: 1<<63 + 1, Left: 1}}, api.ErrForm},
		{1, 1, []api.Slot{{Stamp: top, Left: 1}}, api.ErrForm},
	} {
		got, e := slots.Load(s.places, s.readers, s.list)
		if e != s.want || (got == nil) != (e != api.OK) {
			t.Error(s, e)
		}
		if e == api.OK && !slices.Equal(got.All(), s.list) {
			t.Error(s, got.All())
		}
	}
}

// P12.2, rule 5: neither arguments nor results are shared.
func TestNothingIsShared(t *testing.T) {
	list := []api.Slot{{}, {Stamp: 2}}
	s, _ := slots.Load(2, 1, list)
	list[0].Stamp = 99
	all := s.All()
	all[1].Stamp = 99
	if got := s.All(); !slices.Equal(got, []api.Slot{{}, {Stamp: 2}}) {
		t.Error(got)
	}
}

// P12.1: a slot at the end of the tickets.
func TestLastTicket(t *testing.T) {
	s, e := slots.Load(1, 1, []api.Slot{{Stamp: 1<<63 - 2}})
	if e != api.OK || !s.Free(last) {
		t.Fatal(e)
	}
	if e := s.Put(last, 5); e != api.OK {
		t.Error(e)
	}
	if v, e := s.Get(0, last); v != 5 || e != api.OK || s.Free(finish) {
		t.Error(v, e)
	}
}

// P12.3: what is got for a ticket was put for it, once by each reader; and
// what All returns can be loaded, and goes on the same.
func TestGotIsPut(t *testing.T) {
	random := rand.New(rand.NewSource(12))
	for range 50 {
		places, readers := 1+random.Intn(4), 1+random.Intn(3)
		s := must(t, places, readers)
		put := map[uint64]uint64{}
		got := map[[2]uint64]bool{}
		for range 400 {
			ticket := uint64(random.Intn(24))
			if random.Intn(3) == 0 {
				free, v := s.Free(ticket), random.Uint64()
				e := s.Put(ticket, v)
				if free != (e == api.OK) {
					t.Fatal("Free and Put differ", ticket, e)
				}
				if e == api.OK {
					put[ticket] = v
				}
			} else {
				j := random.Intn(readers)
				has := s.Has(j, ticket)
				v, e := s.Get(j, ticket)
				if has != (e == api.OK) {
					t.Fatal("Has and Get differ", j, ticket, e)
				}
				key := [2]uint64{uint64(j), ticket}
				if want, ok := put[ticket]; e == api.OK && (!ok || want != v || got[key]) {
					t.Fatal(j, ticket, v, want, ok)
				}
				if e == api.OK {
					got[key] = true
				}
			}
			if random.Intn(10) == 0 {
				again, e := slots.Load(places, readers, s.All())
				if e != api.OK {
					t.Fatal(s.All(), e)
				}
				s = again
			}
		}
		for key := range got {
			if key[1] >= uint64(places) {
				for j := range readers {
					if !got[[2]uint64{uint64(j), key[1] - uint64(places)}] {
						t.Fatal("a slot was used before all readers had got its value", key, j)
					}
				}
			}
		}
	}
}

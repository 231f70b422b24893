package model_test

import (
	"math/rand"
	"slices"
	"testing"

	"rondeau/api"
	"rondeau/model"
	"rondeau/ring"
)

const top = 1<<64 - 1

func must(t *testing.T, spec api.Ring) *model.Model {
	t.Helper()
	m, e := model.New(spec)
	if e != api.OK {
		t.Fatal(spec, e)
	}
	return m
}

// P14.1: a queue of one value.
func TestQueue(t *testing.T) {
	m := must(t, api.Ring{Kind: 1, Cap: 1, Readers: 1})
	if v, e := m.Get(0); v != 0 || e != api.ErrEmpty {
		t.Error(v, e)
	}
	if n, e := m.Put(7); n != 0 || e != api.OK {
		t.Error(n, e)
	}
	if n, e := m.Put(8); n != 0 || e != api.ErrFull {
		t.Error(n, e)
	}
	if got := m.Rest(0); !slices.Equal(got, []uint64{7}) {
		t.Error(got)
	}
	if v, e := m.Get(0); v != 7 || e != api.OK || len(m.Rest(0)) != 0 {
		t.Error(v, e)
	}
	if v, e := m.Get(0); v != 0 || e != api.ErrEmpty {
		t.Error(v, e)
	}
	if n, e := m.Put(9); n != 1 || e != api.OK {
		t.Error(n, e)
	}
	if e := m.Close(); e != api.OK || m.Close() != api.OK {
		t.Error(e)
	}
	if n, e := m.Put(1); n != 0 || e != api.ErrClosed {
		t.Error(n, e) // before ErrFull
	}
	if v, e := m.Get(0); v != 9 || e != api.OK {
		t.Error(v, e)
	}
	if v, e := m.Get(0); v != 0 || e != api.ErrClosed {
		t.Error(v, e)
	}
	if _, e := m.Put(1); e != api.ErrClosed {
		t.Error(e)
	}
}

// P14.1: wrong rings, readers and objects.
func TestErrors(t *testing.T) {
	for _, spec := range []api.Ring{{}, {Kind: 1, Cap: 1, Readers: 2}, {Kind: 2, Cap: 65, Readers: 1}, {Kind: 2, Cap: 1, Readers: 9}, {Kind: 3, Cap: 1, Readers: 1}} {
		if m, e := model.New(spec); m != nil || e != api.ErrArg {
			t.Error(spec, e)
		}
	}
	m := must(t, api.Ring{Kind: 2, Cap: 1, Readers: 2})
	m.Put(1)
	m.Close()
	for _, j := range []int{-1, 2, -1 << 63, 1<<63 - 1} {
		if v, e := m.Get(j); v != 0 || e != api.ErrArg || len(m.Rest(j)) != 0 {
			t.Error(j, v, e)
		}
	}
	var none *model.Model
	n, e1 := none.Put(1)
	v, e2 := none.Get(-1)
	if n != 0 || v != 0 || e1 != api.ErrNil || e2 != api.ErrNil || none.Close() != api.ErrNil || len(none.Rest(0)) != 0 {
		t.Error(e1, e2)
	}
}

// P14.2: readers advance by themselves, and the slowest one holds the log up.
func TestReaders(t *testing.T) {
	m := must(t, api.Ring{Kind: 2, Cap: 3, Readers: 2})
	for v := range 3 {
		if n, e := m.Put(uint64(10 + v)); n != uint64(v) || e != api.OK {
			t.Error(n, e)
		}
	}
	for v := range 3 {
		if got, e := m.Get(1); got != uint64(10+v) || e != api.OK {
			t.Error(got, e)
		}
	}
	if _, e := m.Put(0); e != api.ErrFull {
		t.Error(e)
	}
	if got := m.Rest(0); !slices.Equal(got, []uint64{10, 11, 12}) || len(m.Rest(1)) != 0 {
		t.Error(got)
	}
	m.Get(0)
	if n, e := m.Put(13); n != 3 || e != api.OK {
		t.Error(n, e)
	}
	if !slices.Equal(m.Rest(0), []uint64{11, 12, 13}) || !slices.Equal(m.Rest(1), []uint64{13}) {
		t.Error(m.Rest(0), m.Rest(1))
	}
	m.Rest(0)[0] = 99
	if v, _ := m.Get(0); v != 11 {
		t.Error(v)
	}
}

// client performs one operation after another, each in two steps.
type client struct {
	sends, pending bool
	reader         int
	ticket, value  uint64 // of the pending operation; for a receive, what the log gave
}

// begin begins an operation on a ring and does it whole on the log.
func begin(t *testing.T, r *ring.Ring, m *model.Model, c *client, v uint64) {
	var want uint64
	var e, wanted api.Errno
	if c.sends {
		c.ticket, e = r.Claim()
		want, wanted = m.Put(v)
		c.value = v
		if c.ticket != want {
			t.Fatal("tickets", c.ticket, want)
		}
	} else {
		c.ticket, e = r.Take(c.reader)
		c.value, wanted = m.Get(c.reader)
	}
	if e != wanted {
		t.Fatal(e, wanted)
	}
	c.pending = e == api.OK
}

// finish finishes an operation on the ring, if it can.
func finish(t *testing.T, r *ring.Ring, c *client) {
	if c.sends {
		if e := r.Publish(c.ticket, c.value); e == api.OK {
			c.pending = false
		} else if e != api.ErrFull {
			t.Fatal(e)
		}
		return
	}
	v, e := r.Release(c.reader, c.ticket)
	if e == api.OK && v != c.value {
		t.Fatal("released", v, "but the log gave", c.value)
	}
	if e != api.OK && e != api.ErrEmpty {
		t.Fatal(e)
	}
	c.pending = e != api.OK
}

// P14.3, W2: whatever the interleaving, a ring does what the log does, and
// some pending operation can go on.
func TestRingsAreLogs(t *testing.T) {
	random := rand.New(rand.NewSource(14))
	for range 200 {
		spec := api.Ring{Kind: 1, Cap: 1 + random.Intn(3), Readers: 1}
		if random.Intn(2) == 0 {
			spec.Kind, spec.Readers = 2, 1+random.Intn(3)
		}
		r, _ := ring.New(spec)
		m := must(t, spec)
		clients := make([]client, 2+random.Intn(6))
		for i := range clients {
			clients[i].sends = random.Intn(2) == 0
			clients[i].reader = random.Intn(spec.Readers)
		}
		for range 400 {
			c := &clients[random.Intn(len(clients))]
			if c.pending {
				finish(t, r, c)
			} else {
				begin(t, r, m, c, random.Uint64())
			}
			if random.Intn(150) == 0 {
				r.Close()
				m.Close()
			}
			pending, goes := 0, 0
			for _, c := range clients {
				if c.pending {
					pending++
					if c.sends && r.Free(c.ticket) || !c.sends && r.Has(c.reader, c.ticket) {
						goes++
					}
				}
			}
			if pending > 0 && goes == 0 {
				t.Fatal("no pending operation can go on", r.State())
			}
		}
	}
}

package whole

import (
	"math/rand"
	"slices"
	"testing"

	"rondeau/api"
	"rondeau/clocks"
	"rondeau/event"
	"rondeau/fabric"
	"rondeau/judge"
	"rondeau/order"
	"rondeau/trace"
	"rondeau/world"
)

// someEvent returns an event that may be valid and fit a little.
func someEvent(random *rand.Rand, p api.Program, f *fabric.Fabric) api.Event {
	e := api.Event{Thread: random.Intn(len(p.Threads)), Kind: 1 + random.Intn(15)}
	ask, _ := f.Ask(e.Thread)
	if random.Intn(2) == 0 {
		e.Ring = ask.Ring
	}
	switch random.Intn(5) {
	case 0:
		e.Ticket = f.Ring(e.Ring).Tail()
	case 1:
		e.Ticket = f.Ring(e.Ring).Head(ask.Reader)
	case 2:
		e.Ticket = ask.Ticket
	case 3:
		e.Value = ask.Value
	case 4:
		e.Value = f.Now()
	}
	return e
}

// P24.5, W4: executions are records, and what is no record is refused by all
// layers alike.
func TestRecords(t *testing.T) {
	each(t, 150, func(t *testing.T, random *rand.Rand) {
		p, result := run(t, random, 50)
		l := result.Events
		if n, e := judge.First(p, l); n != len(l) || e != api.OK {
			t.Fatal(p, l, n, e)
		}
		if why, e := judge.Why(p, l); why != "" || e != api.OK {
			t.Fatal(p, l, why, e)
		}
		other := slices.Clone(l)
		if len(l) > 1 {
			i, j := random.Intn(len(l)), random.Intn(len(l))
			other[i], other[j] = other[j], other[i]
		}
		n, _ := judge.First(p, other)
		right := n == len(other)
		why, _ := judge.Why(p, other)
		_, place, e1 := order.Needs(p, other)
		_, _, e2 := world.Make(p, other)
		_, e3 := trace.Make(p, 3, other)
		_, e4 := judge.Stuck(p, other)
		_, place2, e5 := clocks.Stamps(p, other)
		_, e6 := order.Closure(p, other, nil)
		for i, e := range []api.Errno{e1, e2, e3, e4, e5, e6} {
			if right != (e == api.OK) || !right && e != api.ErrOrder {
				t.Fatal(p, other, i, e)
			}
		}
		if right != (why == "") || !right && (place != n || place2 != n) {
			t.Fatal(p, other, n, place, why)
		}
	})
}

// P24.2, P24.6: an event is allowed only if its thread can do its kind; what
// Can says is what some allowed event has; and where the program is stuck none is.
func TestKindsThatThreadsCanDo(t *testing.T) {
	each(t, 150, func(t *testing.T, random *rand.Rand) {
		p, result := run(t, random, 40)
		l := result.Events
		f, _ := fabric.New(p)
		for _, e := range l {
			f.Do(e)
		}
		stuck, _ := judge.Stuck(p, l)
		found := make([]map[int]bool, len(p.Threads))
		for i := range found {
			found[i] = map[int]bool{}
		}
		for range 600 {
			e := someEvent(random, p, f)
			if !f.Allowed(e) {
				continue
			}
			found[e.Thread][e.Kind] = true
			if stuck {
				t.Fatal(p, l, e, "where the program is stuck")
			}
		}
		some := false
		for q := range p.Threads {
			can, e := judge.Can(p, l, q)
			if e != api.OK || !slices.IsSorted(can) {
				t.Fatal(p, l, q, can, e)
			}
			some = some || len(can) > 0
			for kind := range found[q] {
				if !slices.Contains(can, kind) {
					t.Fatal(p, l, q, can, event.Name(kind))
				}
			}
		}
		if stuck != (!some && !f.Over()) {
			t.Fatal(p, l, stuck)
		}
	})
}

// P18.1, P24.2: a script makes a thread do only what it can do, and if a thread
// can do anything, some entry makes it.
func TestScriptsAndKinds(t *testing.T) {
	each(t, 100, func(t *testing.T, random *rand.Rand) {
		p, result := run(t, random, 40)
		f, _ := fabric.New(p)
		for _, e := range result.Events {
			f.Do(e)
		}
		for q := range p.Threads {
			can, _ := judge.Can(p, result.Events, q)
			e, ok := world.Offer(f, nil, api.Entry{Pick: q, Fire: true})
			if ok != (len(can) > 0) || ok && !slices.Contains(can, e.Kind) {
				t.Fatal(p, result.Events, q, can, e, ok)
			}
		}
	})
}

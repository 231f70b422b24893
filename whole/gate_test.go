package whole

import (
	"math/rand"
	"reflect"
	"slices"
	"testing"

	"rondeau/api"
	"rondeau/gate"
)

// replay replays a record under a script and holds what must be true of it.
func replay(t *testing.T, p api.Program, l []api.Event, final api.State, script []api.Entry) gate.Result {
	t.Helper()
	r, e := gate.Run(p, l, script)
	if e != api.OK || len(r.Order)+r.Stalls+r.Idle != len(script) {
		t.Fatal(p, l, r, e)
	}
	for q := range p.Threads {
		seen, whole := r.State.Threads[q].Seen, final.Threads[q].Seen
		if len(seen) > len(whole) || !slices.Equal(seen, whole[:len(seen)]) {
			t.Fatal(p, l, q, seen, whole)
		}
	}
	if len(r.Order) == len(l) && !reflect.DeepEqual(r.State, final) {
		t.Fatal(p, l, r.Order)
	}
	return r
}

// P25.3, P25.5, W1: under any script threads see what they saw, events wait
// for what they depend on, and the end is the same.
func TestReplays(t *testing.T) {
	each(t, 150, func(t *testing.T, random *rand.Rand) {
		p, result := run(t, random, 60)
		l := result.Events
		list := needs(t, p, l)
		var fed [2][]int
		for i := range fed {
			r := replay(t, p, l, result.State, someScript(random, p, 3*len(l)+5))
			done := map[int]bool{}
			for _, i := range r.Order {
				for _, need := range list[i] {
					if !done[need] {
						t.Fatal(p, l, i, "before", need)
					}
				}
				done[i] = true
			}
			fed[i] = r.Order
		}
		// What two replays have fed can be fed together.
		both := slices.Clone(fed[0])
		for _, i := range fed[1] {
			if !slices.Contains(both, i) {
				both = append(both, i)
			}
		}
		state(t, p, pick(l, both), true)
		slices.Sort(both)
		state(t, p, pick(l, both), true)
	})
}

// P25.4, W1: a round over all threads feeds something.
func TestProgress(t *testing.T) {
	each(t, 150, func(t *testing.T, random *rand.Rand) {
		p, result := run(t, random, 60)
		picks := random.Perm(len(p.Threads))
		n, e := gate.Rounds(p, result.Events, picks)
		if e != api.OK || n > len(result.Events) || (n == 0) != (len(result.Events) == 0) {
			t.Fatal(p, result.Events, picks, n, e)
		}
	})
}

// P25.5: in an order that keeps to dependencies nothing stalls.
func TestNoStalls(t *testing.T) {
	each(t, 100, func(t *testing.T, random *rand.Rand) {
		p, result := run(t, random, 60)
		var script []api.Entry
		indices := someOrder(random, needs(t, p, result.Events))
		for _, i := range indices {
			script = append(script, api.Entry{Pick: result.Events[i].Thread})
		}
		r := replay(t, p, result.Events, result.State, script)
		if r.Stalls+r.Idle != 0 || !slices.Equal(r.Order, indices) {
			t.Fatal(p, result.Events, r)
		}
	})
}

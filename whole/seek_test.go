package whole

import (
	"math/rand"
	"reflect"
	"slices"
	"testing"

	"rondeau/api"
	"rondeau/event"
	"rondeau/judge"
	"rondeau/seek"
	"rondeau/world"
)

// P26.4, W5: any place of a trace is reached from the mark before it.
func TestSeeking(t *testing.T) {
	each(t, 80, func(t *testing.T, random *rand.Rand) {
		p, tr := made(t, random, 60)
		for i := range len(tr.Events) + 1 {
			got, n, e := seek.State(p, tr, i)
			if e != api.OK || n != i%tr.Every || !reflect.DeepEqual(got, state(t, p, tr.Events[:i], false)) {
				t.Fatal(p, tr, i, n, e)
			}
		}
	})
}

// P26.2, P26.5: what Find finds.
func TestFinding(t *testing.T) {
	each(t, 80, func(t *testing.T, random *rand.Rand) {
		p, tr := made(t, random, 60)
		for q := range p.Threads {
			all := state(t, p, tr.Events, false).Threads[q].Seen
			for n := range len(all) + 2 {
				i, e := seek.Find(p, tr, q, n)
				if n > len(all) {
					if i != 0 || e != api.ErrNone {
						t.Fatal(p, tr, q, n, i, e)
					}
					continue
				}
				if e != api.OK || len(state(t, p, tr.Events[:i], false).Threads[q].Seen) != n {
					t.Fatal(p, tr, q, n, i, e)
				}
				if i > 0 && (tr.Events[i-1].Thread != q || tr.Events[i-1].Kind != api.ESee) {
					t.Fatal(p, tr, q, n, i)
				}
			}
		}
	})
}

// P26.5, W5: a fork in the same world is the rest of the trace; one in another
// world is a record, too.
func TestForking(t *testing.T) {
	each(t, 80, func(t *testing.T, random *rand.Rand) {
		p, tr := made(t, random, 60)
		i := random.Intn(len(tr.Events) + 1)
		tape, script, _ := world.Make(p, tr.Events)
		l, s, e := seek.Fork(p, tr, i, seek.World{Tape: tape, Script: script[i:]})
		if e != api.OK || !event.Same(l, tr.Events[i:]) || !reflect.DeepEqual(s, state(t, p, tr.Events, false)) {
			t.Fatal(p, tr, i, l, e)
		}
		l, s, e = seek.Fork(p, tr, i, seek.World{Tape: someTape(random), Script: someScript(random, p, 40)})
		forked := append(slices.Clone(tr.Events[:i]), l...)
		if n, _ := judge.First(p, forked); e != api.OK || n != len(forked) || !reflect.DeepEqual(s, state(t, p, forked, false)) {
			t.Fatal(p, tr, i, l, e)
		}
	})
}

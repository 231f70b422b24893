package whole

import (
	"math/rand"
	"slices"
	"testing"

	"rondeau/api"
	"rondeau/event"
	"rondeau/gate"
	"rondeau/order"
	"rondeau/slice"
)

// someThreads returns threads of a program, some of them twice.
func someThreads(random *rand.Rand, p api.Program) []int {
	var threads []int
	for range random.Intn(4) {
		threads = append(threads, random.Intn(len(p.Threads)))
	}
	return threads
}

// P27.2, P27.4, W6: a slice can be fed, and replayed; its threads see what they saw.
func TestSlicesSuffice(t *testing.T) {
	each(t, 150, func(t *testing.T, random *rand.Rand) {
		p, result := run(t, random, 60)
		threads := someThreads(random, p)
		indices, e := slice.Of(p, result.Events, threads)
		if e != api.OK {
			t.Fatal(p, e)
		}
		l := pick(result.Events, indices)
		fed := state(t, p, l, true)
		seen, e := slice.Seen(p, result.Events, threads)
		if e != api.OK || len(seen) != len(threads) {
			t.Fatal(p, e)
		}
		var script []api.Entry
		for range l {
			for q := range p.Threads {
				script = append(script, api.Entry{Pick: q})
			}
		}
		replayed, e := gate.Run(p, l, script)
		if e != api.OK || len(replayed.Order) != len(l) {
			t.Fatal(p, l, replayed, e)
		}
		for i, q := range threads {
			want := result.State.Threads[q].Seen
			if !slices.Equal(seen[i], want) || !slices.Equal(fed.Threads[q].Seen, want) || !slices.Equal(replayed.State.Threads[q].Seen, want) {
				t.Fatal(p, result.Events, threads, q)
			}
		}
	})
}

// P27.3, P27.5: unions, sizes, and slices as closures.
func TestSlicesAreClosures(t *testing.T) {
	each(t, 150, func(t *testing.T, random *rand.Rand) {
		p, result := run(t, random, 60)
		l := result.Events
		of := func(threads []int) []int {
			indices, e := slice.Of(p, l, threads)
			if e != api.OK {
				t.Fatal(p, e)
			}
			return indices
		}
		a, b := someThreads(random, p), someThreads(random, p)
		union := append(slices.Clone(of(a)), of(b)...)
		slices.Sort(union)
		if got := of(append(slices.Clone(a), b...)); !slices.Equal(got, slices.Compact(union)) {
			t.Fatal(p, l, a, b, got)
		}
		var own, last, all []int
		for _, q := range a {
			indices := event.Of(l, q)
			own = append(own, indices...)
			if len(indices) > 0 {
				last = append(last, indices[len(indices)-1])
			}
		}
		for _, roots := range [][]int{own, last} {
			if closure, e := order.Closure(p, l, roots); e != api.OK || !slices.Equal(closure, of(a)) {
				t.Fatal(p, l, a, closure, e)
			}
		}
		sizes, e := slice.Sizes(p, l)
		for q := range p.Threads {
			all = append(all, q)
			if e != api.OK || sizes[q] != len(of([]int{q})) {
				t.Fatal(p, l, sizes, e)
			}
		}
		if len(of(all)) != len(l) {
			t.Fatal(p, l, of(all))
		}
	})
}

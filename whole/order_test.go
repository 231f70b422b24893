package whole

import (
	"math/rand"
	"reflect"
	"slices"
	"testing"

	"rondeau/api"
	"rondeau/fabric"
	"rondeau/order"
)

// state returns the state after events that are performed, or fed.
func state(t *testing.T, p api.Program, l []api.Event, feeds bool) api.State {
	t.Helper()
	f, _ := fabric.New(p)
	for i, e := range l {
		err := api.OK
		if feeds {
			err = f.Feed(e)
		} else {
			err = f.Do(e)
		}
		if err != api.OK {
			t.Fatal(p, l, i, e, err)
		}
	}
	return f.State()
}

// pick returns the events at indices.
func pick(l []api.Event, indices []int) []api.Event {
	var picked []api.Event
	for _, i := range indices {
		picked = append(picked, l[i])
	}
	return picked
}

// needs returns the direct dependencies of a record.
func needs(t *testing.T, p api.Program, l []api.Event) [][]int {
	t.Helper()
	list, n, e := order.Needs(p, l)
	if n != 0 || e != api.OK || len(list) != len(l) {
		t.Fatal(p, l, n, e)
	}
	return list
}

// P19.4, W7: adjacent independent events can be exchanged.
func TestExchange(t *testing.T) {
	each(t, 200, func(t *testing.T, random *rand.Rand) {
		p, result := run(t, random, 60)
		l := result.Events
		for i := range len(l) - 1 {
			if !order.Free(l[i], l[i+1]) {
				continue
			}
			other := slices.Clone(l)
			other[i], other[i+1] = l[i+1], l[i]
			if got := state(t, p, other, false); !reflect.DeepEqual(got, result.State) {
				t.Fatal(p, l, i)
			}
		}
	})
}

// someOrder returns the indices of a list in some order in which each follows
// what it needs.
func someOrder(random *rand.Rand, needs [][]int) []int {
	var indices []int
	done := make([]bool, len(needs))
	for len(indices) < len(needs) {
		var ready []int
		for i := range needs {
			if !done[i] && !slices.ContainsFunc(needs[i], func(n int) bool { return !done[n] }) {
				ready = append(ready, i)
			}
		}
		next := ready[random.Intn(len(ready))]
		done[next] = true
		indices = append(indices, next)
	}
	return indices
}

// P19.5: in any order that keeps to dependencies, a record can be fed.
func TestFeedingOrders(t *testing.T) {
	each(t, 200, func(t *testing.T, random *rand.Rand) {
		p, result := run(t, random, 60)
		list := needs(t, p, result.Events)
		for range 3 {
			l := pick(result.Events, someOrder(random, list))
			if got := state(t, p, l, true); !reflect.DeepEqual(got, result.State) {
				t.Fatal(p, result.Events, l)
			}
		}
	})
}

// P19.1, P19.2: dependencies precede, in order, and closures are closed under them.
func TestClosuresAreClosed(t *testing.T) {
	each(t, 100, func(t *testing.T, random *rand.Rand) {
		p, result := run(t, random, 60)
		l := result.Events
		list := needs(t, p, l)
		for i, need := range list {
			if !slices.IsSorted(need) || len(slices.Compact(slices.Clone(need))) != len(need) || len(need) > 0 && (need[0] < 0 || need[len(need)-1] >= i) {
				t.Fatal(i, need)
			}
		}
		if len(l) == 0 {
			return
		}
		roots := []int{random.Intn(len(l)), random.Intn(len(l))}
		got, e := order.Closure(p, l, roots)
		if e != api.OK {
			t.Fatal(e)
		}
		want := map[int]bool{}
		for open := roots; len(open) > 0; open = open[1:] {
			want[open[0]] = true
			open = append(open, list[open[0]]...)
		}
		if len(want) != len(got) || !slices.IsSorted(got) {
			t.Fatal(got, want)
		}
		for _, i := range got {
			if !want[i] {
				t.Fatal(got, want)
			}
		}
	})
}

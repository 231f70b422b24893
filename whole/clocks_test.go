package whole

import (
	"math/rand"
	"slices"
	"testing"

	"rondeau/api"
	"rondeau/clocks"
	"rondeau/event"
	"rondeau/order"
)

// P20.1, P20.3, W7: clocks count dependencies, these can be fed alone, and one
// clock is within another just where the one event depends on the other.
func TestClocks(t *testing.T) {
	each(t, 100, func(t *testing.T, random *rand.Rand) {
		p, result := run(t, random, 50)
		l := result.Events
		stamps, _, e := clocks.Stamps(p, l)
		if e != api.OK || len(stamps) != len(l) {
			t.Fatal(e)
		}
		for i := range l {
			closure, _ := order.Closure(p, l, []int{i})
			if got := clocks.Cut(l, stamps[i]); !slices.Equal(got, closure) {
				t.Fatal(p, l, i, got, closure)
			}
			for thread := range 8 {
				if stamps[i][thread] != uint64(len(event.Of(pick(l, closure), thread))) {
					t.Fatal(p, l, i, stamps[i])
				}
			}
			for j := range l {
				if clocks.Within(stamps[j], stamps[i]) != slices.Contains(closure, j) {
					t.Fatal(p, l, i, j)
				}
			}
			state(t, p, pick(l, closure), true)
		}
	})
}

// W7: exchanging adjacent independent events changes no clock.
func TestExchangedClocks(t *testing.T) {
	each(t, 60, func(t *testing.T, random *rand.Rand) {
		p, result := run(t, random, 40)
		l := result.Events
		stamps, _, _ := clocks.Stamps(p, l)
		for i := range len(l) - 1 {
			if !order.Free(l[i], l[i+1]) {
				continue
			}
			other := slices.Clone(l)
			other[i], other[i+1] = l[i+1], l[i]
			want := slices.Clone(stamps)
			want[i], want[i+1] = stamps[i+1], stamps[i]
			if got, _, e := clocks.Stamps(p, other); e != api.OK || !slices.Equal(got, want) {
				t.Fatal(p, l, i, e)
			}
		}
	})
}

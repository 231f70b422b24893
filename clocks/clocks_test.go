package clocks_test

import (
	"slices"
	"testing"

	"rondeau/api"
	"rondeau/clocks"
	"rondeau/event"
	"rondeau/listing"
	"rondeau/order"
)

func pair(t *testing.T) (api.Program, []api.Event) {
	t.Helper()
	p, _, e := listing.Read("queue 1\nthread\nsend r1 r2 0 wait\nsend r1 r2 0 wait\nthread\nrecv r1 r2 0 wait 0\nrecv r1 r2 0 wait 0\nthread\ndraw r1\n")
	if e != api.OK {
		t.Fatal(e)
	}
	l, _, e := event.Read("0 claim 0 0\n1 take 0 0\n0 publish 0 0\n1 release 0 0\n2 draw 5\n0 claim 0 1\n0 publish 0 1\n")
	if e != api.OK {
		t.Fatal(e)
	}
	return p, l
}

// P20.1: each event's clock.
func TestStamps(t *testing.T) {
	p, l := pair(t)
	got, n, e := clocks.Stamps(p, l)
	want := []clocks.Clock{{1}, {1, 1}, {2}, {2, 2}, {0, 0, 1}, {3, 1}, {4, 2}}
	if !slices.Equal(got, want) || n != 0 || e != api.OK {
		t.Error(got, n, e)
	}
	if got, n, e := clocks.Stamps(p, nil); len(got) != 0 || n != 0 || e != api.OK {
		t.Error(got, n, e)
	}
}

// P20.1: the errors are those of Needs.
func TestErrors(t *testing.T) {
	p, l := pair(t)
	for _, s := range []struct {
		program api.Program
		events  []api.Event
	}{{api.Program{}, l}, {p, make([]api.Event, 65537)}, {p, append(l, l[0])}, {p, l[1:]}} {
		_, wanted, want := order.Needs(s.program, s.events)
		if got, n, e := clocks.Stamps(s.program, s.events); len(got) != 0 || n != wanted || e != want || e == api.OK {
			t.Error(got, n, e)
		}
	}
	if _, n, e := clocks.Stamps(p, append(l, l[0])); n != 7 || e != api.ErrOrder {
		t.Error(n, e)
	}
}

// P20.2: clocks against each other.
func TestMergeWithinApart(t *testing.T) {
	const top = 1<<64 - 1
	for _, s := range []struct {
		a, b, merged  clocks.Clock
		within, apart bool
	}{
		{clocks.Clock{}, clocks.Clock{}, clocks.Clock{}, true, false},
		{clocks.Clock{1, 2}, clocks.Clock{1, 2}, clocks.Clock{1, 2}, true, false},
		{clocks.Clock{1, 2}, clocks.Clock{1, 3}, clocks.Clock{1, 3}, true, false},
		{clocks.Clock{1, 3}, clocks.Clock{1, 2}, clocks.Clock{1, 3}, false, false},
		{clocks.Clock{2, 2}, clocks.Clock{1, 3}, clocks.Clock{2, 3}, false, true},
		{clocks.Clock{7: 1}, clocks.Clock{0: 1}, clocks.Clock{0: 1, 7: 1}, false, true},
		{clocks.Clock{7: top}, clocks.Clock{7: 1}, clocks.Clock{7: top}, false, false},
		{clocks.Clock{7: 1}, clocks.Clock{7: top}, clocks.Clock{7: top}, true, false},
	} {
		if clocks.Merge(s.a, s.b) != s.merged || clocks.Merge(s.b, s.a) != s.merged || clocks.Within(s.a, s.b) != s.within || clocks.Apart(s.a, s.b) != s.apart || clocks.Apart(s.b, s.a) != s.apart {
			t.Error(s, clocks.Merge(s.a, s.b), clocks.Within(s.a, s.b), clocks.Apart(s.a, s.b))
		}
	}
}

// P20.3: the first events of each thread.
func TestCut(t *testing.T) {
	l := []api.Event{{Thread: 1}, {Thread: 0}, {Thread: 8}, {Thread: 1}, {Thread: -1}, {Thread: 7}, {Thread: 1, Kind: 99}}
	for _, s := range []struct {
		clock clocks.Clock
		want  []int
	}{
		{clocks.Clock{}, nil}, {clocks.Clock{1: 1}, []int{0}}, {clocks.Clock{1: 2}, []int{0, 3}}, {clocks.Clock{1: 3}, []int{0, 3, 6}}, {clocks.Clock{1: 1<<64 - 1}, []int{0, 3, 6}},
		{clocks.Clock{1, 1, 1, 1, 1, 1, 1, 1}, []int{0, 1, 5}}, {clocks.Clock{7: 9}, []int{5}},
	} {
		if got := clocks.Cut(l, s.clock); !slices.Equal(got, s.want) {
			t.Error(s, got)
		}
	}
}

// P20.3: the cut of an event's clock is the event and its dependencies.
func TestCutsAreClosures(t *testing.T) {
	p, l := pair(t)
	stamps, _, _ := clocks.Stamps(p, l)
	for i := range l {
		want, _ := order.Closure(p, l, []int{i})
		if got := clocks.Cut(l, stamps[i]); !slices.Equal(got, want) {
			t.Error(i, got, want)
		}
		for j := range l {
			if clocks.Within(stamps[j], stamps[i]) != slices.Contains(want, j) {
				t.Error(i, j)
			}
		}
	}
}

package order_test

import (
	"reflect"
	"slices"
	"testing"

	"rondeau/api"
	"rondeau/event"
	"rondeau/listing"
	"rondeau/order"
)

func program(t *testing.T, text string) api.Program {
	t.Helper()
	p, line, e := listing.Read(text)
	if e != api.OK {
		t.Fatal(text, line, e)
	}
	return p
}

func events(t *testing.T, text string) []api.Event {
	t.Helper()
	l, line, e := event.Read(text)
	if e != api.OK {
		t.Fatal(text, line, e)
	}
	return l
}

const pair = "queue 1\nthread\nsend r1 r2 0 wait\nsend r1 r2 0 wait\nthread\nrecv r1 r2 0 wait 0\nrecv r1 r2 0 wait 0\n"

// P19.1: direct dependencies.
func TestNeeds(t *testing.T) {
	for _, s := range []struct {
		program, events string
		want            [][]int
	}{
		{pair, "", nil},
		{pair, "0 claim 0 0\n1 take 0 0\n0 publish 0 0\n1 release 0 0\n", [][]int{nil, {0}, {0}, {1, 2}}},
		// The second ticket uses the slot of the first one.
		{pair, "0 claim 0 0\n1 take 0 0\n0 publish 0 0\n0 claim 0 1\n1 release 0 0\n0 publish 0 1\n1 take 0 1\n1 release 0 1\n",
			[][]int{nil, {0}, {0}, {0, 1, 2}, {1, 2}, {3, 4}, {1, 3, 4}, {5, 6}}},
		// Readers of a multicast ring depend on claims, and a claim on all of them.
		{"cast 1 2\nthread\nsend r1 r2 0 wait\nsend r1 r2 0 wait\nthread\nrecv r1 r2 0 wait 1\nthread\nrecv r1 r2 0 wait 0\n",
			"0 claim 0 0\n0 publish 0 0\n1 take 0 0\n2 take 0 0\n0 claim 0 1\n2 release 0 0\n1 release 0 0\n0 publish 0 1\n",
			[][]int{nil, {0}, {0}, {0}, {0, 1, 2, 3}, {1, 3}, {1, 2}, {4, 5, 6}}},
		// Receivers of a queue share its reader.
		{"queue 2\nthread\nsend r1 r2 0 wait\nthread\nsend r1 r2 0 wait\nclose 0\nthread\nrecv r1 r2 0 wait 0\nthread\nrecv r1 r2 0 wait 0\n",
			"0 claim 0 0\n1 claim 0 1\n3 take 0 0\n2 take 0 1\n1 publish 0 1\n2 release 0 1\n1 close 0 2\n2 halt\n",
			[][]int{nil, {0}, {0}, {1, 2}, {1}, {3, 4}, {1, 4}, {5}}},
		// What uses no tickets depends on its own thread alone.
		{"queue 1\nthread\nclose 0\nthread\nrecv r1 r2 0 wait 0\nclock r1\nread r1 r2\nthread\nclock r1\nread r1 r2\n",
			"0 close 0 0\n1 shut 0\n1 clock 5\n2 clock 5\n1 end\n2 end\n", [][]int{nil, nil, {1}, nil, {2}, {3}}},
		// Rings of other indices do not matter.
		{"queue 1\nqueue 1\nthread\nsend r1 r2 0 wait\nthread\nsend r1 r2 1 wait\n", "0 claim 0 0\n1 claim 1 0\n", [][]int{nil, nil}},
	} {
		got, n, e := order.Needs(program(t, s.program), events(t, s.events))
		if n != 0 || e != api.OK || len(got) != len(s.want) {
			t.Error(s, got, n, e)
			continue
		}
		for i := range got {
			if !slices.Equal(got[i], s.want[i]) {
				t.Error(s.events, i, got[i], s.want[i])
			}
		}
	}
}

// P19.1, P19.2: errors.
func TestErrors(t *testing.T) {
	p := program(t, pair)
	long := make([]api.Event, 65537)
	for _, s := range []struct {
		program api.Program
		events  []api.Event
		roots   []int
		number  int
		want    api.Errno
	}{
		{api.Program{}, long, []int{-1}, 0, api.ErrArg},
		{p, long, []int{-1}, 0, api.ErrLong},
		{p, events(t, "0 claim 0 0\n0 claim 0 1\n0 halt\n"), []int{-1}, 1, api.ErrOrder},
		{p, []api.Event{{}}, nil, 0, api.ErrOrder},
		{p, []api.Event{{Kind: api.EClaim}, {Kind: api.EHalt, Thread: -1}}, nil, 1, api.ErrOrder},
		{p, []api.Event{{Kind: api.EClaim}, {Kind: api.EClaim, Thread: 2}}, nil, 1, api.ErrOrder},
	} {
		if got, n, e := order.Needs(s.program, s.events); len(got) != 0 || n != s.number || e != s.want {
			t.Error(s.number, s.want, got, n, e)
		}
		if got, e := order.Closure(s.program, s.events, s.roots); len(got) != 0 || e != s.want {
			t.Error(s.want, got, e)
		}
	}
	for _, root := range []int{-1, 1, 1 << 62} {
		if got, e := order.Closure(p, events(t, "0 claim 0 0\n"), []int{0, root}); len(got) != 0 || e != api.ErrRange {
			t.Error(root, got, e)
		}
	}
	if _, e := order.Closure(p, nil, []int{0}); e != api.ErrRange {
		t.Error(e)
	}
}

// P19.2: roots and all that they depend on.
func TestClosure(t *testing.T) {
	p := program(t, pair+"thread\ndraw r1\nsee r1\n")
	l := events(t, "2 draw 1\n0 claim 0 0\n1 take 0 0\n0 publish 0 0\n2 see 1\n1 release 0 0\n")
	for _, s := range []struct{ roots, want []int }{
		{nil, nil}, {[]int{1}, []int{1}}, {[]int{2}, []int{1, 2}}, {[]int{5}, []int{1, 2, 3, 5}},
		{[]int{4, 2, 4}, []int{0, 1, 2, 4}}, {[]int{5, 0}, []int{0, 1, 2, 3, 5}}, {[]int{3, 2, 1}, []int{1, 2, 3}},
	} {
		given := slices.Clone(s.roots)
		if got, e := order.Closure(p, l, s.roots); !slices.Equal(got, s.want) || e != api.OK || !slices.Equal(given, s.roots) {
			t.Error(s, got, e)
		}
	}
}

// P19.3: independent events.
func TestFree(t *testing.T) {
	for _, s := range []struct {
		a, b string
		want bool
	}{
		{"0 halt\n", "1 halt\n", true}, {"0 halt\n", "0 see 1\n", false},
		{"0 claim 0 0\n", "1 take 0 0\n", false}, {"0 claim 0 0\n", "1 take 1 0\n", true}, {"0 no 0\n", "1 no 0\n", false},
		{"0 shut 3\n", "1 time 3\n", false}, {"0 close 3 0\n", "1 time 2\n", true}, {"0 claim 0 0\n", "1 see 0\n", true},
		{"0 clock 1\n", "1 clock 1\n", false}, {"0 clock 1\n", "1 draw 1\n", true}, {"0 draw 1\n", "1 draw 1\n", true},
		{"0 read 1\n", "1 read 1\n", false}, {"0 read 1\n", "1 end\n", false}, {"0 end\n", "1 end\n", false}, {"0 end\n", "1 clock 1\n", true},
		{"0 see 1\n", "1 see 1\n", true}, {"0 spin\n", "1 halt\n", true},
	} {
		a, b := events(t, s.a)[0], events(t, s.b)[0]
		if order.Free(a, b) != s.want || order.Free(b, a) != s.want {
			t.Error(s)
		}
	}
	// For any events: those of no kind use no ring.
	if !order.Free(api.Event{Thread: -9, Kind: 99, Ring: 4}, api.Event{Kind: api.EClaim, Ring: 4}) || order.Free(api.Event{Thread: 50}, api.Event{Thread: 50}) {
		t.Error("other events")
	}
	if order.Free(api.Event{Kind: api.EClaim, Ring: 90}, api.Event{Thread: 1, Kind: api.ENo, Ring: 90}) {
		t.Error("other rings")
	}
}

// P19.3: each thread's events.
func TestDense(t *testing.T) {
	l := []api.Event{{Thread: 7}, {Thread: 0}, {Thread: 8}, {Thread: -1}, {Thread: 7, Kind: 99}}
	want := [][]int{{1}, nil, nil, nil, nil, nil, nil, {0, 4}}
	if got := order.Dense(l); !reflect.DeepEqual(got, want) {
		t.Error(got)
	}
	if got := order.Dense(nil); len(got) != 8 {
		t.Error(got)
	}
}

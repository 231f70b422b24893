package gate_test

import (
	"reflect"
	"slices"
	"testing"

	"rondeau/api"
	"rondeau/event"
	"rondeau/fabric"
	"rondeau/gate"
	"rondeau/listing"
)

func program(t *testing.T, text string) api.Program {
	t.Helper()
	p, line, e := listing.Read(text)
	if e != api.OK {
		t.Fatal(text, line, e)
	}
	return p
}

func events(t *testing.T, text string) []api.Event {
	t.Helper()
	l, line, e := event.Read(text)
	if e != api.OK {
		t.Fatal(text, line, e)
	}
	return l
}

// script picks threads by digits; what else entries say does not matter.
func script(digits string) []api.Entry {
	var l []api.Entry
	for i, d := range digits {
		l = append(l, api.Entry{Pick: int(d - '0'), Clock: uint64(i), Draw: 9, Fire: i%2 == 0})
	}
	return l
}

const pair = "queue 1\nthread\nset r1 9\nsend r1 r2 0 wait\nthread\nrecv r1 r2 0 wait 0\nsee r1\n"

const record = "0 claim 0 0\n0 publish 0 0\n1 take 0 0\n1 release 0 0\n1 see 9\n"

// fed returns the state after events that are fed.
func after(t *testing.T, p api.Program, l []api.Event) api.State {
	t.Helper()
	f, e := fabric.New(p)
	if e != api.OK {
		t.Fatal(e)
	}
	for _, event := range l {
		if e := f.Feed(event); e != api.OK {
			t.Fatal(event, e)
		}
	}
	return f.State()
}

// P25.1: replays under other scripts.
func TestRun(t *testing.T) {
	p, l := program(t, pair), events(t, record)
	for _, s := range []struct {
		digits       string
		order        []int
		stalls, idle int
	}{
		{"", nil, 0, 0},
		{"00111", []int{0, 1, 2, 3, 4}, 0, 0},
		{"101011", []int{0, 2, 1, 3, 4}, 1, 0},
		{"0000", []int{0, 1}, 0, 2},
		{"1111", nil, 4, 0},
		{"0110111", []int{0, 2, 1, 3, 4}, 1, 1},
		{"29", nil, 0, 2},
	} {
		r, e := gate.Run(p, l, script(s.digits))
		var done []api.Event
		for _, i := range s.order {
			done = append(done, l[i])
		}
		if e != api.OK || !slices.Equal(r.Order, s.order) || r.Stalls != s.stalls || r.Idle != s.idle || !reflect.DeepEqual(r.State, after(t, p, done)) {
			t.Error(s, r, e)
		}
	}
	if r, e := gate.Run(p, l, []api.Entry{{Pick: -1}, {Pick: 1 << 40}}); r.Idle != 2 || e != api.OK {
		t.Error(r, e)
	}
	if r, e := gate.Run(p, nil, script("01")); r.Idle != 2 || e != api.OK || !reflect.DeepEqual(r.State, after(t, p, nil)) {
		t.Error(r, e)
	}
}

// P25.1: a replay ends at an event that its thread does not request.
func TestBroken(t *testing.T) {
	p := program(t, pair)
	l := events(t, "0 claim 0 0\n1 take 0 0\n1 see 9\n0 publish 0 0\n")
	r, e := gate.Run(p, l, script("1201109"))
	if e != api.ErrOrder || !slices.Equal(r.Order, []int{0, 1}) || r.Stalls != 1 || r.Idle != 1 || !reflect.DeepEqual(r.State, after(t, p, l[:2])) {
		t.Error(r, e)
	}
	if r, e := gate.Run(p, events(t, "0 halt\n"), script("1")); e != api.OK || r.Idle != 1 {
		t.Error(r, e)
	}
	if n, e := gate.Rounds(p, l, []int{0, 1}); n != 0 || e != api.ErrOrder {
		t.Error(n, e)
	}
}

// P25.1, P25.2: errors.
func TestErrors(t *testing.T) {
	p := program(t, pair)
	halt := api.Event{Kind: api.EHalt}
	long := slices.Repeat([]api.Event{{}}, 65537)
	full := slices.Repeat([]api.Event{{Kind: api.EHalt, Thread: 7}}, 65536)
	for _, s := range []struct {
		program api.Program
		events  []api.Event
		want    api.Errno
	}{
		{api.Program{}, long, api.ErrArg}, {p, long, api.ErrLong}, {p, []api.Event{halt, {}}, api.ErrForm},
		{p, []api.Event{halt, {Kind: api.EHalt, Thread: 2}}, api.ErrRange}, {p, []api.Event{{Kind: api.EHalt, Thread: 2}, {}}, api.ErrForm},
		{p, []api.Event{{Kind: api.EHalt, Thread: 8}}, api.ErrForm}, {p, full, api.ErrRange},
	} {
		if r, e := gate.Run(s.program, s.events, script("0")); e != s.want || !reflect.DeepEqual(r, gate.Result{}) {
			t.Error(s.want, r, e)
		}
		if n, e := gate.Rounds(s.program, s.events, []int{0}); e != s.want || n != 0 {
			t.Error(s.want, n, e)
		}
	}
	if r, e := gate.Run(p, []api.Event{{}}, make([]api.Entry, 65537)); e != api.ErrLong || !reflect.DeepEqual(r, gate.Result{}) {
		t.Error(r, e)
	}
	if _, e := gate.Run(p, nil, make([]api.Entry, 65536)); e != api.OK {
		t.Error(e)
	}
	if n, e := gate.Rounds(p, events(t, record), make([]int, 65537)); n != 0 || e != api.ErrNone {
		t.Error(n, e) // picks are not limited, but 1 never comes
	}
}

// P25.2: how often picks are gone through.
func TestRounds(t *testing.T) {
	const sends = "queue 1\nthread\nsend r1 r2 0 wait\nthread\nrecv r1 r2 0 wait 0\n"
	four := "0 claim 0 0\n0 publish 0 0\n1 take 0 0\n1 release 0 0\n"
	for _, s := range []struct {
		events string
		picks  []int
		want   int
		err    api.Errno
	}{
		{four, []int{1, 0}, 3, api.OK},
		{four, []int{0, 1}, 2, api.OK},
		{four, []int{0, 0, 1, 1}, 1, api.OK},
		{four, []int{0, 0, 1, 1, 1, 7, -2}, 1, api.OK},
		{four, []int{1, 1, 0, 0}, 2, api.OK},
		{four, []int{1}, 0, api.ErrNone},
		{four, []int{0}, 0, api.ErrNone},
		{four, nil, 0, api.ErrNone},
		{four, []int{5, 9}, 0, api.ErrNone},
		{"", nil, 0, api.OK},
		{"", []int{1}, 0, api.OK},
		{"1 take 0 0\n", []int{0, 1}, 0, api.ErrNone},
		{"0 halt\n", []int{1, 0}, 0, api.ErrOrder},
		{"0 halt\n", []int{1}, 0, api.ErrNone},
	} {
		if n, e := gate.Rounds(program(t, sends), events(t, s.events), s.picks); n != s.want || e != s.err {
			t.Error(s, n, e)
		}
	}
}

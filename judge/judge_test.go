package judge_test

import (
	"slices"
	"testing"

	"rondeau/api"
	"rondeau/event"
	"rondeau/judge"
	"rondeau/listing"
)

func program(t *testing.T, text string) api.Program {
	t.Helper()
	p, line, e := listing.Read(text)
	if e != api.OK {
		t.Fatal(text, line, e)
	}
	return p
}

func events(t *testing.T, text string) []api.Event {
	t.Helper()
	l, line, e := event.Read(text)
	if e != api.OK {
		t.Fatal(text, line, e)
	}
	return l
}

const pair = "queue 1\nthread\nset r1 9\nsend r1 r2 0 wait\nthread\nrecv r1 r2 0 wait 0\nsee r1\n"

// P24.1: the first event that cannot be performed.
func TestFirst(t *testing.T) {
	p := program(t, pair)
	for _, s := range []struct {
		program api.Program
		events  []api.Event
		want    int
		err     api.Errno
	}{
		{p, nil, 0, api.OK},
		{p, events(t, "0 claim 0 0\n1 take 0 0\n"), 2, api.OK},
		{p, events(t, "1 take 0 0\n"), 0, api.OK},
		{p, events(t, "0 claim 0 0\n0 claim 0 1\n1 take 0 0\n"), 1, api.OK},
		{p, []api.Event{{Kind: api.EClaim}, {}}, 1, api.OK},
		{p, []api.Event{{Kind: api.EClaim, Thread: 2}}, 0, api.OK},
		{api.Program{}, make([]api.Event, 65537), 0, api.ErrArg},
		{p, make([]api.Event, 65537), 0, api.ErrLong},
		{p, make([]api.Event, 65536), 0, api.OK},
	} {
		if n, e := judge.First(s.program, s.events); n != s.want || e != s.err {
			t.Error(s.want, s.err, n, e)
		}
	}
}

// P24.2: what threads can do.
func TestCan(t *testing.T) {
	for _, s := range []struct {
		program, events string
		thread          int
		want            []int
	}{
		{"thread\nsee r0\nhalt\n", "", 0, []int{api.ESee}},
		{"thread\nsee r0\nhalt\n", "0 see 0\n", 0, []int{api.EHalt}},
		{"thread\nsee r0\nhalt\n", "0 see 0\n0 halt\n", 0, nil},
		{"thread\njmp 0\n", "", 0, []int{api.ESpin}},
		{"thread\nread r1 r2\nread r1 r2\n", "", 0, []int{api.ERead, api.EEnd}},
		{"thread\nread r1 r2\nread r1 r2\n", "0 end\n", 0, []int{api.EEnd}},
		{"thread\nclock r1\nclock r1\n", "0 clock 77\n", 0, []int{api.EClock}},
		{"thread\ndraw r1\n", "", 0, []int{api.EDraw}},
		{pair, "", 0, []int{api.EClaim}},
		{pair, "", 1, nil},
		{pair, "0 claim 0 0\n", 0, []int{api.EPublish}},
		{pair, "0 claim 0 0\n", 1, []int{api.ETake}},
		{pair, "0 claim 0 0\n1 take 0 0\n", 1, nil},
		{pair, "0 claim 0 0\n1 take 0 0\n0 publish 0 0\n", 1, []int{api.ERelease}},
		{"queue 1\nthread\nsend r1 r2 0 try\nsend r1 r2 0 try\n", "0 claim 0 0\n0 publish 0 0\n", 0, []int{api.ENo}},
		{"queue 1\nthread\nsend r1 r2 0 try\nsend r1 r2 0 timed\n", "0 claim 0 0\n0 publish 0 0\n", 0, []int{api.ETime}},
		{"queue 1\nthread\nclose 0\nsend r1 r2 0 timed\n", "", 0, []int{api.EClose}},
		{"queue 1\nthread\nclose 0\nsend r1 r2 0 timed\n", "0 close 0 0\n", 0, []int{api.EShut}},
		{"queue 1\nthread\nrecv r1 r2 0 try 0\n", "", 0, []int{api.ENo}},
		{"queue 1\nthread\nrecv r1 r2 0 timed 0\n", "", 0, []int{api.ETime}},
		{"queue 1\nthread\nclose 0\nrecv r1 r2 0 wait 0\n", "0 close 0 0\n", 0, []int{api.EShut}},
		{"queue 1\nqueue 1\nthread\nsend r1 r2 1 wait\nclose 1\n", "0 claim 1 0\n0 publish 1 0\n", 0, []int{api.EClose}},
		{"cast 2 2\nthread\nsend r1 r2 0 wait\nthread\nrecv r1 r2 0 wait 1\nrecv r1 r2 0 wait 1\n", "0 claim 0 0\n0 publish 0 0\n1 take 0 0\n1 release 0 0\n", 1, nil},
	} {
		if got, e := judge.Can(program(t, s.program), events(t, s.events), s.thread); !slices.Equal(got, s.want) || e != api.OK {
			t.Error(s, got, e)
		}
	}
}

// P24.2, P24.3: errors.
func TestErrors(t *testing.T) {
	p := program(t, pair)
	long := make([]api.Event, 65537)
	for _, s := range []struct {
		program api.Program
		events  []api.Event
		thread  int
		want    api.Errno
	}{
		{api.Program{}, long, 9, api.ErrArg}, {p, long, 9, api.ErrLong}, {p, events(t, "1 take 0 0\n"), 9, api.ErrOrder},
		{p, nil, 2, api.ErrRange}, {p, nil, -1, api.ErrRange}, {p, []api.Event{{}}, 0, api.ErrOrder},
	} {
		if got, e := judge.Can(s.program, s.events, s.thread); len(got) != 0 || e != s.want {
			t.Error(s.want, got, e)
		}
		if got, e := judge.Stuck(s.program, s.events); s.want != api.ErrRange && (got || e != s.want) {
			t.Error(s.want, got, e)
		}
	}
}

// P24.3: programs that are stuck.
func TestStuck(t *testing.T) {
	const senders = "queue 1\nthread\nsend r1 r2 0 wait\nthread\nsend r1 r2 0 wait\n"
	for _, s := range []struct {
		program, events string
		want            bool
	}{
		{senders, "", false},
		{senders, "0 claim 0 0\n", false},
		{senders, "0 claim 0 0\n0 publish 0 0\n", false}, // the sender can halt
		{senders, "0 claim 0 0\n0 publish 0 0\n0 halt\n", true},
		{"queue 1\nthread\nrecv r1 r2 0 wait 0\n", "", true},
		{"queue 1\nthread\nrecv r1 r2 0 timed 0\n", "", false},
		{"thread\nhalt\n", "0 halt\n", false}, // none runs
		{"thread\njmp 0\n", "0 spin\n", false},
		{"thread\njmp 0\n", "", false},
		{"queue 1\nthread\nrecv r1 r2 0 wait 0\nthread\nhalt\n", "1 halt\n", true},
		{"queue 1\nthread\nrecv r1 r2 0 wait 0\nthread\nhalt\n", "", false},
	} {
		if got, e := judge.Stuck(program(t, s.program), events(t, s.events)); got != s.want || e != api.OK {
			t.Error(s, got, e)
		}
	}
}

// P24.4: in words.
func TestWhy(t *testing.T) {
	for _, s := range []struct {
		program string
		events  []api.Event
		want    string
	}{
		{pair, nil, ""},
		{pair, events(t, "0 claim 0 0\n"), ""},
		{pair, events(t, "1 take 0 0\n"), "0: 1 take 0 0, not nothing"},
		{pair, events(t, "0 claim 0 0\n0 publish 0 1\n0 halt\n"), "1: 0 publish 0 1, not publish"},
		{"thread\nsee r0\nhalt\n", events(t, "0 halt\n"), "0: 0 halt, not see"},
		{"thread\nread r0 r1\n", events(t, "0 halt\n"), "0: 0 halt, not read end"},
		{"thread\nsee r0\n", []api.Event{{Kind: api.ESee}, {Kind: 99}}, "1: ?, not halt"},
		{"thread\nsee r0\n", []api.Event{{Kind: api.ESee, Ring: 1}}, "0: ?, not see"},
		{"thread\nsee r0\n", []api.Event{{Thread: 1, Kind: api.ESee}}, "0: 1 see 0, not nothing"},
		{"thread\nsee r0\n", []api.Event{{Thread: 8, Kind: api.ESee}}, "0: ?, not nothing"},
		{"thread\nsee r0\n", []api.Event{{Thread: -1, Kind: api.ESee}}, "0: ?, not nothing"},
	} {
		if got, e := judge.Why(program(t, s.program), s.events); got != s.want || e != api.OK {
			t.Errorf("%v: %q %d", s, got, e)
		}
	}
	long := make([]api.Event, 65537)
	if got, e := judge.Why(api.Program{}, long); got != "" || e != api.ErrArg {
		t.Error(got, e)
	}
	if got, e := judge.Why(program(t, pair), long); got != "" || e != api.ErrLong {
		t.Error(got, e)
	}
}

package fabric_test

import (
	"math/rand"
	"reflect"
	"slices"
	"testing"

	"rondeau/api"
	"rondeau/event"
	"rondeau/fabric"
	"rondeau/listing"
	"rondeau/thread"
)

const top = 1<<64 - 1

func program(t *testing.T, text string) api.Program {
	t.Helper()
	p, line, e := listing.Read(text)
	if e != api.OK {
		t.Fatal(text, line, e)
	}
	return p
}

func events(t *testing.T, text string) []api.Event {
	t.Helper()
	l, line, e := event.Read(text)
	if e != api.OK {
		t.Fatal(text, line, e)
	}
	return l
}

// after returns a fabric after events that are performed.
func after(t *testing.T, text, done string) *fabric.Fabric {
	t.Helper()
	f, e := fabric.New(program(t, text))
	if e != api.OK {
		t.Fatal(text, e)
	}
	for i, event := range events(t, done) {
		if e := f.Do(event); e != api.OK {
			t.Fatal(text, done, i, e)
		}
	}
	return f
}

const pair = "queue 1\nthread\nset r1 9\nsend r1 r2 0 wait\nthread\nrecv r1 r2 0 wait 0\nsee r1\n"

// P17.1: the initial state, and what threads request.
func TestNew(t *testing.T) {
	f := after(t, pair, "")
	want := api.State{Threads: make([]api.ThreadState, 2), Rings: []api.RingState{{Heads: []uint64{0}, Slots: []api.Slot{{}}}}}
	if got := f.State(); !reflect.DeepEqual(got, want) {
		t.Error(got)
	}
	if ask, e := f.Ask(0); ask != (thread.Ask{Kind: thread.Send, Mode: 1, Value: 9}) || e != api.OK {
		t.Error(ask, e)
	}
	if ask, e := f.Ask(1); ask != (thread.Ask{Kind: thread.Recv, Mode: 1}) || e != api.OK {
		t.Error(ask, e)
	}
	if f.Ring(0) == nil || f.Ring(1) != nil {
		t.Error("one ring")
	}
	for _, i := range []int{-1, 2, 8} {
		if ask, e := f.Ask(i); ask != (thread.Ask{}) || e != api.ErrRange {
			t.Error(i, ask, e)
		}
		if f.Runs(i) || len(f.Seen(i)) != 0 || f.Ring(i) != nil {
			t.Error(i)
		}
	}
	for _, p := range []api.Program{{}, {Threads: [][]api.Instr{{{}}}}, {Threads: [][]api.Instr{{{Op: api.OClose}}}}} {
		if f, e := fabric.New(p); f != nil || e != api.ErrArg {
			t.Error(p, e)
		}
		if f, e := fabric.Load(p, api.State{}); f != nil || e != api.ErrArg {
			t.Error(p, e)
		}
	}
}

// P17.1: a nil fabric.
func TestNil(t *testing.T) {
	var f *fabric.Fabric
	_, e := f.Ask(0)
	if e != api.ErrNil || f.Do(api.Event{}) != api.ErrNil || f.Feed(api.Event{}) != api.ErrNil {
		t.Error(e)
	}
	if f.Allowed(api.Event{Kind: api.EHalt}) || f.Runs(0) || f.Over() || len(f.Seen(0)) != 0 || f.Now() != 0 || f.Ring(0) != nil {
		t.Error("nil has something")
	}
	if got := f.State(); !reflect.DeepEqual(got, api.State{}) {
		t.Error(got)
	}
}

// P17.2, P17.3: a value on its way.
func TestDo(t *testing.T) {
	f := after(t, pair, "0 claim 0 0\n1 take 0 0\n0 publish 0 0\n1 release 0 0\n1 see 9\n0 halt\n")
	if f.Runs(0) || !f.Runs(1) || f.Over() || !slices.Equal(f.Seen(1), []uint64{9}) || len(f.Seen(0)) != 0 {
		t.Error(f.State())
	}
	want := api.State{
		Threads: []api.ThreadState{
			{At: 2, Status: api.THalted, Regs: [8]uint64{1: 9}},
			{At: 2, Regs: [8]uint64{1: 9}, Seen: []uint64{9}},
		},
		Rings: []api.RingState{{Tail: 1, Heads: []uint64{1}, Slots: []api.Slot{{Stamp: 2}}}},
	}
	if got := f.State(); !reflect.DeepEqual(got, want) {
		t.Error(got)
	}
	if e := f.Do(events(t, "1 halt\n")[0]); e != api.OK || !f.Over() {
		t.Error(e)
	}
}

// P17.3: errors, after which nothing has changed.
func TestDoErrors(t *testing.T) {
	f := after(t, pair, "0 claim 0 0\n")
	before := f.State()
	for _, s := range []struct {
		event api.Event
		want  api.Errno
	}{
		{api.Event{}, api.ErrForm},
		{api.Event{Kind: api.EHalt, Value: 1}, api.ErrForm},
		{api.Event{Thread: 8, Kind: api.EHalt}, api.ErrForm},
		{api.Event{Thread: 2, Kind: api.EHalt}, api.ErrRange},
		{api.Event{Thread: 7, Kind: api.EClaim, Ring: 7}, api.ErrRange},
		{api.Event{Thread: 0, Kind: api.EHalt}, api.ErrOrder},
		{api.Event{Thread: 0, Kind: api.EClaim}, api.ErrOrder},
		{api.Event{Thread: 0, Kind: api.EPublish, Ticket: 1}, api.ErrOrder},
		{api.Event{Thread: 0, Kind: api.EPublish, Ring: 1}, api.ErrOrder},
		{api.Event{Thread: 1, Kind: api.ETake, Ticket: 1}, api.ErrOrder},
		{api.Event{Thread: 1, Kind: api.ERelease}, api.ErrOrder},
		{api.Event{Thread: 1, Kind: api.EShut}, api.ErrOrder},
	} {
		if e := f.Do(s.event); e != s.want || f.Allowed(s.event) {
			t.Error(s, e)
		}
		if e := f.Feed(s.event); e != s.want && s.want != api.ErrOrder {
			t.Error(s, e)
		}
		if s.event.Kind != api.EShut && !reflect.DeepEqual(f.State(), before) {
			t.Error(s, f.State())
		}
	}
}

// rules: after what is done, an event is allowed or not, and what Feed answers.
var rules = []struct {
	text, done, event string
	allowed           bool
	fed               api.Errno
}{
	// claim: neither closed nor full, and the tail.
	{"queue 1\nthread\nsend r1 r2 0 try\n", "", "0 claim 0 0\n", true, api.OK},
	{"queue 1\nthread\nsend r1 r2 0 try\n", "", "0 claim 0 1\n", false, api.ErrFull},
	{"queue 1\nthread\nsend r1 r2 0 try\nsend r1 r2 0 try\n", "0 claim 0 0\n0 publish 0 0\n", "0 claim 0 1\n", false, api.ErrFull},
	{"queue 1\nthread\nclose 0\nsend r1 r2 0 try\n", "0 close 0 0\n", "0 claim 0 0\n", false, api.OK},
	{"queue 1\nthread\nclose 0\nsend r1 r2 0 try\n", "0 close 0 0\n", "0 claim 0 1\n", false, api.ErrFull},
	{"queue 1\nthread\nsend r1 r2 0 try\nclose 0\nsend r1 r2 0 try\n", "0 claim 0 0\n0 publish 0 0\n0 close 0 1\n", "0 claim 0 1\n", false, api.ErrFull},
	// no, shut and time of a send.
	{"queue 1\nthread\nsend r1 r2 0 try\n", "", "0 no 0\n", false, api.OK},
	{"queue 1\nthread\nsend r1 r2 0 try\nsend r1 r2 0 try\n", "0 claim 0 0\n0 publish 0 0\n", "0 no 0\n", true, api.OK},
	{"queue 1\nthread\nsend r1 r2 0 try\nclose 0\nsend r1 r2 0 try\n", "0 claim 0 0\n0 publish 0 0\n0 close 0 1\n", "0 no 0\n", false, api.OK},
	{"queue 1\nthread\nsend r1 r2 0 try\nclose 0\nsend r1 r2 0 try\n", "0 claim 0 0\n0 publish 0 0\n0 close 0 1\n", "0 shut 0\n", true, api.OK},
	{"queue 1\nthread\nclose 0\nsend r1 r2 0 wait\n", "0 close 0 0\n", "0 shut 0\n", true, api.OK},
	{"queue 1\nthread\nsend r1 r2 0 wait\n", "", "0 shut 0\n", false, api.OK},
	{"queue 1\nthread\nsend r1 r2 0 try\nsend r1 r2 0 timed\n", "0 claim 0 0\n0 publish 0 0\n", "0 time 0\n", true, api.OK},
	{"queue 1\nthread\nsend r1 r2 0 timed\n", "", "0 time 0\n", false, api.OK},
	{"queue 1\nthread\nclose 0\nsend r1 r2 0 timed\n", "0 close 0 0\n", "0 time 0\n", false, api.OK},
	{"queue 1\nthread\nsend r1 r2 0 wait\n", "", "0 time 0\n", false, api.ErrOrder},
	// publish: the slot is free.
	{"queue 1\nthread\nsend r1 r2 0 try\n", "0 claim 0 0\n", "0 publish 0 0\n", true, api.OK},
	{"queue 1\nthread\nsend r1 r2 0 try\nsend r1 r2 0 try\nthread\nrecv r1 r2 0 try 0\n", "0 claim 0 0\n0 publish 0 0\n1 take 0 0\n0 claim 0 1\n", "0 publish 0 1\n", false, api.ErrFull},
	{"queue 1\nthread\nsend r1 r2 0 try\nsend r1 r2 0 try\nthread\nrecv r1 r2 0 try 0\n", "0 claim 0 0\n0 publish 0 0\n1 take 0 0\n0 claim 0 1\n1 release 0 0\n", "0 publish 0 1\n", true, api.OK},
	// take: not empty for the reader, and its head.
	{pair, "", "1 take 0 0\n", false, api.ErrFull},
	{pair, "0 claim 0 0\n", "1 take 0 0\n", true, api.OK},
	{pair, "0 claim 0 0\n", "1 take 0 1\n", false, api.ErrFull},
	{"cast 2 2\nthread\nsend r1 r2 0 try\nsend r1 r2 0 try\nthread\nrecv r1 r2 0 try 1\nrecv r1 r2 0 try 0\n", "0 claim 0 0\n0 publish 0 0\n1 take 0 0\n1 release 0 0\n", "1 take 0 0\n", true, api.OK},
	{"cast 2 2\nthread\nsend r1 r2 0 try\nsend r1 r2 0 try\nthread\nrecv r1 r2 0 try 1\nrecv r1 r2 0 try 1\n", "0 claim 0 0\n0 publish 0 0\n1 take 0 0\n1 release 0 0\n", "1 no 0\n", true, api.OK},
	// no, shut and time of a receive.
	{"queue 1\nthread\nrecv r1 r2 0 try 0\n", "", "0 no 0\n", true, api.OK},
	{"queue 1\nthread\nclose 0\nrecv r1 r2 0 try 0\n", "0 close 0 0\n", "0 no 0\n", false, api.OK},
	{"queue 1\nthread\nclose 0\nrecv r1 r2 0 try 0\n", "0 close 0 0\n", "0 shut 0\n", true, api.OK},
	{"queue 1\nthread\nsend r1 r2 0 try\nclose 0\nrecv r1 r2 0 try 0\n", "0 claim 0 0\n0 publish 0 0\n0 close 0 1\n", "0 shut 0\n", false, api.OK},
	{"queue 1\nthread\nsend r1 r2 0 try\nclose 0\nrecv r1 r2 0 try 0\n", "0 claim 0 0\n0 publish 0 0\n0 close 0 1\n", "0 take 0 0\n", true, api.OK},
	{"queue 1\nthread\nrecv r1 r2 0 wait 0\n", "", "0 shut 0\n", false, api.OK},
	{"queue 1\nthread\nrecv r1 r2 0 timed 0\n", "", "0 time 0\n", true, api.OK},
	{"queue 1\nthread\nclose 0\nrecv r1 r2 0 timed 0\n", "0 close 0 0\n", "0 time 0\n", false, api.OK},
	{"queue 1\nthread\nrecv r1 r2 0 timed 0\n", "", "0 no 0\n", false, api.ErrOrder},
	// release: what was published.
	{pair, "0 claim 0 0\n1 take 0 0\n", "1 release 0 0\n", false, api.ErrFull},
	{pair, "0 claim 0 0\n1 take 0 0\n0 publish 0 0\n", "1 release 0 0\n", true, api.OK},
	// close: the tail.
	{"queue 1\nthread\nclose 0\n", "", "0 close 0 0\n", true, api.OK},
	{"queue 1\nthread\nclose 0\n", "", "0 close 0 1\n", false, api.ErrFull},
	{"queue 1\nthread\nclose 0\nclose 0\n", "0 close 0 0\n", "0 close 0 0\n", true, api.OK},
	// clock: from Now on, by less than 2^20.
	{"thread\nclock r1\n", "", "0 clock 0\n", true, api.OK},
	{"thread\nclock r1\n", "", "0 clock 1048575\n", true, api.OK},
	{"thread\nclock r1\n", "", "0 clock 1048576\n", false, api.OK},
	{"thread\nclock r1\nclock r1\n", "0 clock 9\n", "0 clock 8\n", false, api.OK},
	{"thread\nclock r1\nclock r1\n", "0 clock 9\n", "0 clock 9\n", true, api.OK},
	// read and end.
	{"thread\nread r1 r2\n", "", "0 read 5\n", true, api.OK},
	{"thread\nread r1 r2\n", "", "0 end\n", true, api.OK},
	{"thread\nread r1 r2\nread r1 r2\n", "0 end\n", "0 read 5\n", false, api.OK},
	{"thread\nread r1 r2\nread r1 r2\n", "0 end\n", "0 end\n", true, api.OK},
	// the rest.
	{"thread\ndraw r1\n", "", "0 draw 18446744073709551615\n", true, api.OK},
	{"thread\nset r1 4\nsee r1\n", "", "0 see 4\n", true, api.OK},
	{"thread\nset r1 4\nsee r1\n", "", "0 see 5\n", false, api.ErrOrder},
	{"thread\nhalt\n", "", "0 halt\n", true, api.OK},
	{"thread\nhalt\n", "0 halt\n", "0 halt\n", false, api.ErrOrder},
	{"thread\njmp 0\n", "", "0 spin\n", true, api.OK},
	{"thread\njmp 0\n", "0 spin\n", "0 spin\n", false, api.ErrOrder},
	{"thread\njmp 0\n", "", "0 halt\n", false, api.ErrOrder},
}

// P17.2, P17.3, P17.4: which events are allowed, performed and fed.
func TestRules(t *testing.T) {
	for _, s := range rules {
		e := events(t, s.event)[0]
		f := after(t, s.text, s.done)
		before := f.State()
		if f.Allowed(e) != s.allowed || !reflect.DeepEqual(f.State(), before) {
			t.Error(s, "allowed", !s.allowed)
		}
		want := api.ErrOrder
		if s.allowed {
			want = api.OK
		}
		if err := f.Do(e); err != want || err != api.OK && !reflect.DeepEqual(f.State(), before) {
			t.Error(s, "Do", err)
		}
		done := f.State()
		f = after(t, s.text, s.done)
		if err := f.Feed(e); err != s.fed || err != api.OK && !reflect.DeepEqual(f.State(), before) {
			t.Error(s, "Feed", err)
		}
		if s.allowed && !reflect.DeepEqual(f.State(), done) {
			t.Error(s, "Feed and Do differ")
		}
	}
}

// P17.4: what feeding does where performing can't.
func TestFeed(t *testing.T) {
	feed := func(f *fabric.Fabric, text string) {
		t.Helper()
		for _, e := range events(t, text) {
			if err := f.Feed(e); err != api.OK {
				t.Fatal(text, err)
			}
		}
	}
	f := after(t, "thread\nclock r1\nclock r1\nclock r1\n", "0 clock 9\n")
	feed(f, "0 clock 4\n")
	if f.Now() != 9 || f.State().Threads[0].Regs[1] != 4 {
		t.Error(f.State())
	}
	feed(f, "0 clock 18446744073709551615\n")
	if f.Now() != top {
		t.Error(f.Now())
	}
	f = after(t, "thread\nread r1 r2\nread r1 r2\n", "0 end\n")
	feed(f, "0 read 5\n")
	if s := f.State(); s.Reads != 1 || !s.Ended || s.Threads[0].Regs[1] != 5 || s.Threads[0].Regs[2] != 0 {
		t.Error(s)
	}
	f = after(t, "queue 2\nthread\nclose 0\nset r1 7\nsend r1 r2 0 try\n", "0 close 0 0\n")
	feed(f, "0 claim 0 0\n0 publish 0 0\n")
	if s := f.State(); s.Rings[0].Tail != 1 || !s.Rings[0].Closed || s.Rings[0].Slots[0] != (api.Slot{Stamp: 1, Value: 7, Left: 1}) {
		t.Error(s)
	}
	if r := f.Ring(0); !r.Closed() || r.Tail() != 1 {
		t.Error(r.State())
	}
}

// P17.2: copies of rings are independent.
func TestRing(t *testing.T) {
	f := after(t, pair, "0 claim 0 0\n")
	r := f.Ring(0)
	if r.Tail() != 1 || !r.Full() || r.Closed() {
		t.Error(r.State())
	}
	r.Take(0)
	r.Publish(0, 5)
	r.Close()
	if s := f.State(); s.Rings[0].Heads[0] != 0 || s.Rings[0].Closed || s.Rings[0].Slots[0].Stamp != 0 || f.Ring(0).Head(0) != 0 {
		t.Error(s)
	}
}

// P17.5: states that can be loaded, and ones that can't.
func TestLoad(t *testing.T) {
	p := program(t, "queue 2\nthread\nsend r1 r2 0 wait\nthread\nrecv r1 r2 0 wait 0\n")
	fresh := func() api.State {
		return api.State{
			Threads: make([]api.ThreadState, 2),
			Rings:   []api.RingState{{Heads: []uint64{0}, Slots: []api.Slot{{}, {Stamp: 2}}}},
		}
	}
	for i, s := range []struct {
		change func(s *api.State)
		want   api.Errno
	}{
		{func(s *api.State) {}, api.OK},
		{func(s *api.State) { s.Now, s.Reads, s.Ended = top, top, true }, api.OK},
		{func(s *api.State) { s.Rings[0].Closed = true }, api.OK},
		{func(s *api.State) { s.Threads = s.Threads[:1] }, api.ErrForm},
		{func(s *api.State) { s.Threads = append(s.Threads, api.ThreadState{}) }, api.ErrForm},
		{func(s *api.State) { s.Rings = nil }, api.ErrForm},
		{func(s *api.State) { s.Rings = append(s.Rings, s.Rings[0]) }, api.ErrForm},
		{func(s *api.State) { s.Threads[0].At = 2 }, api.ErrForm},
		{func(s *api.State) { s.Threads[1].Status = 3 }, api.ErrForm},
		{func(s *api.State) { s.Rings[0].Heads = []uint64{1} }, api.ErrForm},
		{func(s *api.State) { s.Rings[0].Tail = 3 }, api.ErrForm},
		{func(s *api.State) { s.Threads[0].Phase = 1 }, api.ErrForm},
		{func(s *api.State) { s.Threads[0].Phase, s.Rings[0].Tail = 1, 1 }, api.OK},
		{func(s *api.State) { s.Threads[0].Phase, s.Threads[0].Ticket, s.Rings[0].Tail = 1, 1, 1 }, api.ErrForm},
		{func(s *api.State) { s.Threads[1].Phase, s.Rings[0].Tail = 2, 1 }, api.ErrForm},
		{func(s *api.State) { s.Threads[1].Phase, s.Rings[0].Tail, s.Rings[0].Heads = 2, 1, []uint64{1} }, api.OK},
		{func(s *api.State) {
			s.Threads[1].Phase, s.Threads[1].Ticket, s.Rings[0].Tail, s.Rings[0].Heads = 2, 1, 2, []uint64{1}
		}, api.ErrForm},
		{func(s *api.State) { s.Threads[0].Seen, s.Threads[1].Status = []uint64{4, 5}, api.THalted }, api.OK},
	} {
		state := fresh()
		s.change(&state)
		f, e := fabric.Load(p, state)
		if e != s.want || (f == nil) != (e != api.OK) {
			t.Error(i, e)
		}
		if e == api.OK && !reflect.DeepEqual(f.State(), state) {
			t.Error(i, f.State(), state)
		}
	}
	if f, e := fabric.Load(program(t, "cast 1 2\nthread\nrecv r1 r2 0 wait 1\n"), api.State{
		Threads: []api.ThreadState{{Phase: 2}},
		Rings:   []api.RingState{{Tail: 1, Heads: []uint64{1, 0}, Slots: []api.Slot{{}}}},
	}); f != nil || e != api.ErrForm {
		t.Error("a ticket that another reader has taken", e)
	}
}

// P17.5: clocks and tickets near their ends.
func TestEnds(t *testing.T) {
	p := program(t, "queue 1\nthread\nclock r1\nthread\nsend r1 r2 0 wait\nsend r1 r2 0 wait\nthread\nrecv r1 r2 0 wait 0\n")
	last := uint64(1<<62 - 1)
	f, e := fabric.Load(p, api.State{
		Threads: make([]api.ThreadState, 3),
		Rings:   []api.RingState{{Tail: last, Heads: []uint64{last}, Slots: []api.Slot{{Stamp: 2 * last}}}},
		Now:     top - 5,
	})
	if e != api.OK {
		t.Fatal(e)
	}
	for _, s := range []struct {
		value uint64
		want  bool
	}{{top - 6, false}, {top - 5, true}, {top, true}, {0, false}, {4, false}} {
		if f.Allowed(api.Event{Kind: api.EClock, Value: s.value}) != s.want {
			t.Error(s)
		}
	}
	for _, e := range []api.Event{
		{Thread: 1, Kind: api.EClaim, Ticket: last}, {Thread: 1, Kind: api.EPublish, Ticket: last},
		{Thread: 2, Kind: api.ETake, Ticket: last}, {Thread: 2, Kind: api.ERelease, Ticket: last},
	} {
		if err := f.Do(e); err != api.OK {
			t.Error(e, err)
		}
	}
	if e := f.Do(api.Event{Thread: 1, Kind: api.EClaim, Ticket: last + 1}); e != api.ErrForm {
		t.Error(e)
	}
}

// Rule 5: programs and states are copied.
func TestNothingIsShared(t *testing.T) {
	p := program(t, "queue 1\nthread\nset r1 4\nsee r1\n")
	f, _ := fabric.New(p)
	s := f.State()
	g, _ := fabric.Load(p, s)
	p.Threads[0][0].K, p.Rings[0].Cap = 5, 9
	s.Threads[0].At, s.Rings[0].Heads[0] = 9, 9
	for _, m := range []*fabric.Fabric{f, g} {
		if ask, _ := m.Ask(0); ask.Value != 4 {
			t.Error(ask)
		}
		m.Do(api.Event{Kind: api.ESee, Value: 4})
		m.Seen(0)[0] = 7
		m.State().Threads[0].Seen[0] = 8
		if got := m.Seen(0); !slices.Equal(got, []uint64{4}) || m.State().Rings[0].Heads[0] != 0 {
			t.Error(got)
		}
	}
}

// candidate returns an event that a thread might do.
func candidate(random *rand.Rand, f *fabric.Fabric, t int) api.Event {
	ask, _ := f.Ask(t)
	e := api.Event{Thread: t, Kind: 1 + random.Intn(15)}
	if event.Rings(e.Kind) {
		e.Ring = ask.Ring
	}
	r := f.Ring(e.Ring)
	switch e.Kind {
	case api.EClaim, api.EClose:
		e.Ticket = r.Tail()
	case api.EPublish, api.ERelease:
		e.Ticket = ask.Ticket
	case api.ETake:
		e.Ticket = r.Head(ask.Reader)
	case api.EClock:
		e.Value = f.Now() + uint64(random.Intn(5))
	case api.ESee:
		e.Value = ask.Value
	}
	return e
}

// P17.6: tickets are claimed and taken one after another, and what was seen is
// only extended; and each state can be loaded, and goes on the same.
func TestConsequences(t *testing.T) {
	random := rand.New(rand.NewSource(17))
	pool := []string{"set r1 3", "add r1 r1 r1", "jz r3 1", "send r1 r2 0 try", "send r2 r3 1 timed", "recv r1 r2 0 timed 0", "recv r1 r3 1 try 1", "recv r1 r3 1 wait 0", "clock r1", "draw r1", "read r1 r2", "see r1", "see r2", "close 0"}
	for range 100 {
		text := "queue 2\ncast 1 2\n"
		for range 3 {
			text += "thread\n"
			for range 3 + random.Intn(8) {
				text += pool[random.Intn(len(pool))] + "\n"
			}
		}
		f := after(t, text, "")
		p := program(t, text)
		tails, heads := [2]uint64{}, [2][2]uint64{}
		for range 150 {
			thread := random.Intn(3)
			e := candidate(random, f, thread)
			ask, _ := f.Ask(thread)
			before := f.State()
			if f.Do(e) != api.OK {
				continue
			}
			switch e.Kind {
			case api.EClaim:
				if e.Ticket != tails[e.Ring] {
					t.Fatal(e, tails)
				}
				tails[e.Ring]++
			case api.ETake:
				if e.Ticket != heads[e.Ring][ask.Reader] {
					t.Fatal(e, heads)
				}
				heads[e.Ring][ask.Reader]++
			}
			now := f.State()
			for i := range now.Threads {
				old := before.Threads[i].Seen
				if len(now.Threads[i].Seen) < len(old) || !slices.Equal(now.Threads[i].Seen[:len(old)], old) {
					t.Fatal(e, old, now.Threads[i].Seen)
				}
			}
			g, err := fabric.Load(p, now)
			if err != api.OK || !reflect.DeepEqual(g.State(), now) {
				t.Fatal(now, err)
			}
			h, err := fabric.Load(p, before)
			if err != api.OK || h.Feed(e) != api.OK || !reflect.DeepEqual(h.State(), now) {
				t.Fatal("Feed and Do differ", e)
			}
			f = g
		}
	}
}

// A long record takes no more than a moment, however much a thread has seen.
func TestLongRecord(t *testing.T) {
	f := after(t, "thread\nadd r1 r1 r2\nsee r1\njmp 0\n", "")
	for range api.MaxEvents {
		if e := f.Do(api.Event{Kind: api.ESee}); e != api.OK {
			t.Fatal(e)
		}
	}
	if len(f.Seen(0)) != api.MaxEvents {
		t.Error(len(f.Seen(0)))
	}
}

package seek_test

import (
	"reflect"
	"slices"
	"testing"

	"rondeau/api"
	"rondeau/event"
	"rondeau/fabric"
	"rondeau/listing"
	"rondeau/seek"
	"rondeau/trace"
)

const pair = "queue 1\nthread\nset r1 9\nsend r1 r2 0 wait\nthread\nrecv r1 r2 0 wait 0\nsee r1\nsee r2\nclock r3\nread r4 r5\n"

const record = "0 claim 0 0\n0 publish 0 0\n1 take 0 0\n1 release 0 0\n1 see 9\n1 see 0\n1 clock 7\n"

func given(t *testing.T, every int) (api.Program, trace.Trace) {
	t.Helper()
	p, line, e := listing.Read(pair)
	if e != api.OK {
		t.Fatal(line, e)
	}
	l, line, e := event.Read(record)
	if e != api.OK {
		t.Fatal(line, e)
	}
	made, e := trace.Make(p, every, l)
	if e != api.OK {
		t.Fatal(e)
	}
	return p, made
}

func after(t *testing.T, p api.Program, l []api.Event) api.State {
	t.Helper()
	f, _ := fabric.New(p)
	for _, e := range l {
		if err := f.Do(e); err != api.OK {
			t.Fatal(e, err)
		}
	}
	return f.State()
}

// P26.1: the state after each number of events.
func TestState(t *testing.T) {
	for _, every := range []int{1, 2, 3, 7, 100} {
		p, made := given(t, every)
		for i := range len(made.Events) + 1 {
			got, n, e := seek.State(p, made, i)
			if e != api.OK || n != i%every || !reflect.DeepEqual(got, after(t, p, made.Events[:i])) {
				t.Error(every, i, got, n, e)
			}
		}
	}
}

// P26.1: errors, in their order, and what is not used.
func TestStateErrors(t *testing.T) {
	now := api.State{Now: 3}
	for i, s := range []struct {
		change func(p *api.Program, t *trace.Trace)
		i      int
		want   api.Errno
	}{
		{func(p *api.Program, m *trace.Trace) { p.Threads = nil }, 99, api.ErrArg},
		{func(p *api.Program, m *trace.Trace) { m.Every = 0 }, 99, api.ErrArg},
		{func(p *api.Program, m *trace.Trace) { m.Every, m.Sum = 3, 1 }, 99, api.ErrArg},
		{func(p *api.Program, m *trace.Trace) { m.Events[6].Kind = 99 }, 0, api.ErrArg},
		{func(p *api.Program, m *trace.Trace) { m.Marks[2].State.Threads[0].At = -1 }, 0, api.ErrArg},
		{func(p *api.Program, m *trace.Trace) { m.Marks[2].At = 7 }, 0, api.ErrArg},
		{func(p *api.Program, m *trace.Trace) { m.Sum++ }, 99, api.ErrDigest},
		{func(p *api.Program, m *trace.Trace) { m.Threads-- }, 99, api.ErrDigest},
		{func(p *api.Program, m *trace.Trace) { m.Rings-- }, -1, api.ErrDigest},
		{func(p *api.Program, m *trace.Trace) { p.Rings[0].Cap = 2 }, 0, api.ErrDigest},
		{func(p *api.Program, m *trace.Trace) {}, -1, api.ErrRange},
		{func(p *api.Program, m *trace.Trace) {}, 8, api.ErrRange},
		{func(p *api.Program, m *trace.Trace) { m.Marks[1].State = now }, 5, api.ErrForm},
		{func(p *api.Program, m *trace.Trace) { m.Marks[1].State = now }, 3, api.OK},
		{func(p *api.Program, m *trace.Trace) { m.Marks[1].State = now }, 6, api.OK},
		{func(p *api.Program, m *trace.Trace) { m.Events[4].Value = 8 }, 5, api.ErrOrder},
		{func(p *api.Program, m *trace.Trace) { m.Events[4].Value = 8 }, 4, api.OK},
		{func(p *api.Program, m *trace.Trace) { m.Events[4].Value = 8 }, 6, api.OK},
		{func(p *api.Program, m *trace.Trace) { m.Events[0].Thread = 7 }, 1, api.ErrOrder},
	} {
		p, made := given(t, 2)
		s.change(&p, &made)
		got, n, e := seek.State(p, made, s.i)
		if e != s.want || e != api.OK && (n != 0 || !reflect.DeepEqual(got, api.State{})) {
			t.Error(i, got, n, e)
		}
		l, got, e := seek.Fork(p, made, s.i, seek.World{})
		if e != s.want || len(l) != 0 || e != api.OK && !reflect.DeepEqual(got, api.State{}) {
			t.Error(i, e)
		}
	}
}

// P26.1: a mark is taken at its word.
func TestMarksAreUsed(t *testing.T) {
	p, made := given(t, 2)
	made.Marks[2].State.Threads[1].Seen = []uint64{1, 2, 3}
	if got, n, e := seek.State(p, made, 7); e != api.OK || n != 1 || !slices.Equal(got.Threads[1].Seen, []uint64{1, 2, 3}) {
		t.Error(got, n, e)
	}
}

// P26.2: where a thread has seen so much.
func TestFind(t *testing.T) {
	p, made := given(t, 3)
	for _, s := range []struct {
		q, n, want int
		err        api.Errno
	}{
		{1, 0, 0, api.OK}, {1, 1, 5, api.OK}, {1, 2, 6, api.OK}, {1, 3, 0, api.ErrNone}, {0, 0, 0, api.OK}, {0, 1, 0, api.ErrNone},
		{2, 0, 0, api.ErrRange}, {-1, 0, 0, api.ErrRange}, {0, -1, 0, api.ErrRange}, {1, 1 << 40, 0, api.ErrNone},
	} {
		if got, e := seek.Find(p, made, s.q, s.n); got != s.want || e != s.err {
			t.Error(s, got, e)
		}
	}
	made.Marks[0].State.Now = 1
	if got, e := seek.Find(p, made, -1, 1); got != 0 || e != api.ErrForm {
		t.Error(got, e)
	}
	made.Sum++
	if _, e := seek.Find(p, made, 1, 1); e != api.ErrDigest {
		t.Error(e)
	}
	if _, e := seek.Find(api.Program{}, made, 1, 1); e != api.ErrArg {
		t.Error(e)
	}
	// The last event may be the one.
	p, made = given(t, 100)
	made.Events = made.Events[:6]
	if got, e := seek.Find(p, made, 1, 2); got != 6 || e != api.OK {
		t.Error(got, e)
	}
}

// P26.3: going on in another world.
func TestFork(t *testing.T) {
	p, made := given(t, 2)
	w := seek.World{Tape: []uint64{5}, Script: []api.Entry{{Pick: 1, Clock: 4}, {Pick: 0}, {Pick: 1}, {Pick: 7}, {Pick: 0}, {Pick: 1}}}
	l, s, e := seek.Fork(p, made, 6, w)
	text, _ := event.Print(l)
	if e != api.OK || text != "1 clock 4\n0 halt\n1 read 5\n1 halt\n" || s.Now != 4 || s.Reads != 1 {
		t.Error(text, s, e)
	}
	if l, s, e := seek.Fork(p, made, 3, seek.World{}); len(l) != 0 || e != api.OK || !reflect.DeepEqual(s, after(t, p, made.Events[:3])) {
		t.Error(l, s, e)
	}
	for _, w := range []seek.World{{Script: make([]api.Entry, 65537)}, {Tape: make([]uint64, 65537)}} {
		if l, s, e := seek.Fork(api.Program{}, made, 99, w); len(l) != 0 || e != api.ErrLong || !reflect.DeepEqual(s, api.State{}) {
			t.Error(e)
		}
	}
	if _, _, e := seek.Fork(p, made, 0, seek.World{Script: make([]api.Entry, 65536), Tape: make([]uint64, 65536)}); e != api.OK {
		t.Error(e)
	}
}

package world_test

import (
	"reflect"
	"slices"
	"testing"

	"rondeau/api"
	"rondeau/event"
	"rondeau/fabric"
	"rondeau/listing"
	"rondeau/world"
)

const top = 1<<64 - 1

func program(t *testing.T, text string) api.Program {
	t.Helper()
	p, line, e := listing.Read(text)
	if e != api.OK {
		t.Fatal(text, line, e)
	}
	return p
}

// picks returns a script that picks threads by digits.
func picks(digits string) []api.Entry {
	var script []api.Entry
	for _, d := range digits {
		script = append(script, api.Entry{Pick: int(d - '0')})
	}
	return script
}

func text(t *testing.T, l []api.Event) string {
	t.Helper()
	s, e := event.Print(l)
	if e != api.OK {
		t.Fatal(l, e)
	}
	return s
}

const pair = "queue 1\nthread\nset r1 9\nsend r1 r2 0 wait\nthread\nrecv r1 r2 0 wait 0\nsee r1\n"

// P18.3: what scripts make programs do.
func TestRun(t *testing.T) {
	for _, s := range []struct {
		program, digits, want string
		idle, waits           int
	}{
		{pair, "", "", 0, 0},
		{pair, "00111", "0 claim 0 0\n0 publish 0 0\n1 take 0 0\n1 release 0 0\n1 see 9\n", 0, 0},
		{pair, "101101", "0 claim 0 0\n1 take 0 0\n0 publish 0 0\n1 release 0 0\n", 0, 2},
		{pair, "0000", "0 claim 0 0\n0 publish 0 0\n0 halt\n", 1, 0},
		{pair, "29", "", 2, 0},
		{"thread\nhalt\n", "00", "0 halt\n", 1, 0},
		{"thread\njmp 0\n", "00", "0 spin\n", 1, 0},
		{"queue 1\nthread\nsend r1 r2 0 wait\nthread\nsend r1 r2 0 wait\n", "0011", "0 claim 0 0\n0 publish 0 0\n", 0, 2},
		{"queue 1\nthread\nsend r1 r2 0 try\nsend r1 r2 0 try\nsee r2\n", "0000", "0 claim 0 0\n0 publish 0 0\n0 no 0\n0 see 1\n", 0, 0},
		{"queue 1\nthread\nrecv r1 r2 0 try 0\nsee r2\nclose 0\nrecv r1 r2 0 try 0\nsee r2\n", "00000", "0 no 0\n0 see 1\n0 close 0 0\n0 shut 0\n0 see 2\n", 0, 0},
		{"queue 1\nthread\nsend r1 r2 0 try\nclose 0\nsend r1 r2 0 wait\nsee r2\n", "00000", "0 claim 0 0\n0 publish 0 0\n0 close 0 1\n0 shut 0\n0 see 2\n", 0, 0},
		{"queue 1\nthread\nsend r1 r2 0 try\nclose 0\nrecv r1 r2 0 wait 0\nrecv r1 r2 0 wait 0\n", "000000", "0 claim 0 0\n0 publish 0 0\n0 close 0 1\n0 take 0 0\n0 release 0 0\n0 shut 0\n", 0, 0},
		{"queue 1\nthread\nsend r1 r2 0 try\nsend r1 r2 0 wait\nthread\nrecv r1 r2 0 try 0\n", "0010010", "0 claim 0 0\n0 publish 0 0\n1 take 0 0\n0 claim 0 1\n1 release 0 0\n0 publish 0 1\n", 0, 1},
		{"cast 1 2\nthread\nsend r1 r2 0 wait\nthread\nrecv r1 r2 0 wait 1\nrecv r1 r2 0 wait 1\n", "001111", "0 claim 0 0\n0 publish 0 0\n1 take 0 0\n1 release 0 0\n", 0, 2},
	} {
		result, e := world.Run(program(t, s.program), nil, picks(s.digits))
		if e != api.OK || text(t, result.Events) != s.want || result.Idle != s.idle || result.Waits != s.waits {
			t.Errorf("%q %s: %q %d idle %d waits %d", s.program, s.digits, text(t, result.Events), e, result.Idle, result.Waits)
		}
	}
}

// P18.1: what an entry says of clocks, draws and timed waits.
func TestEntries(t *testing.T) {
	const timed = "queue 1\nthread\nrecv r1 r2 0 timed 0\nsend r1 r2 0 timed\nsend r1 r2 0 timed\nsee r2\n"
	fire, hold := api.Entry{Fire: true}, api.Entry{}
	result, _ := world.Run(program(t, timed), nil, []api.Entry{hold, fire, fire, fire, hold, fire, fire})
	if got := text(t, result.Events); got != "0 time 0\n0 claim 0 0\n0 publish 0 0\n0 time 0\n0 see 3\n" || result.Waits != 2 {
		t.Error(got, result.Waits)
	}
	result, _ = world.Run(program(t, "queue 1\nthread\nrecv r1 r2 0 wait 0\n"), nil, []api.Entry{fire})
	if len(result.Events) != 0 || result.Waits != 1 {
		t.Error(result)
	}
	result, _ = world.Run(program(t, "queue 1\nthread\nrecv r1 r2 0 try 0\n"), nil, []api.Entry{fire})
	if got := text(t, result.Events); got != "0 no 0\n" {
		t.Error(got)
	}
	result, _ = world.Run(program(t, "thread\nclock r1\nclock r1\nclock r1\ndraw r1\ndraw r1\n"), nil, []api.Entry{
		{Clock: 5}, {Clock: 1 << 20}, {Clock: 1<<20 - 1, Draw: 3}, {Draw: top}, {Clock: 3},
	})
	if got := text(t, result.Events); got != "0 clock 5\n0 clock 5\n0 clock 1048580\n0 draw 18446744073709551615\n0 draw 0\n" {
		t.Error(got)
	}
}

// P18.1: the tape is read in order, and ends.
func TestTape(t *testing.T) {
	p := program(t, "thread\nread r1 r2\njmp 0\nthread\nread r1 r2\nsee r2\n")
	result, _ := world.Run(p, []uint64{7, 8}, picks("0100011"))
	if got := text(t, result.Events); got != "0 read 7\n1 read 8\n0 end\n0 end\n0 end\n1 see 0\n1 halt\n" {
		t.Error(got)
	}
	if !result.State.Ended || result.State.Reads != 2 {
		t.Error(result.State)
	}
	result, _ = world.Run(p, nil, picks("11"))
	if got := text(t, result.Events); got != "1 end\n1 see 1\n" {
		t.Error(got)
	}
	// A tape that has ended stays so, whatever else is on the tape that is passed.
	f, _ := fabric.New(p)
	world.Step(f, nil, api.Entry{})
	if e, ok := world.Offer(f, []uint64{7}, api.Entry{}); !ok || e != (api.Event{Kind: api.EEnd}) {
		t.Error(e, ok)
	}
	f, _ = fabric.New(p)
	world.Step(f, []uint64{7, 8}, api.Entry{})
	if e, ok := world.Step(f, []uint64{1, 5, 3}, api.Entry{Pick: 1}); !ok || e != (api.Event{Thread: 1, Kind: api.ERead, Value: 5}) {
		t.Error(e, ok)
	}
}

// P18.1, P18.2: offers change nothing, steps perform.
func TestOfferAndStep(t *testing.T) {
	f, _ := fabric.New(program(t, pair))
	before := f.State()
	want := api.Event{Kind: api.EClaim}
	for range 2 {
		if e, ok := world.Offer(f, nil, api.Entry{}); e != want || !ok || !reflect.DeepEqual(f.State(), before) {
			t.Error(e, ok)
		}
	}
	for _, pick := range []int{1, 2, -1, 8} {
		if e, ok := world.Offer(f, nil, api.Entry{Pick: pick}); e != (api.Event{}) || ok {
			t.Error(pick, e, ok)
		}
		if e, ok := world.Step(f, nil, api.Entry{Pick: pick}); e != (api.Event{}) || ok || !reflect.DeepEqual(f.State(), before) {
			t.Error(pick, e, ok)
		}
	}
	if e, ok := world.Step(f, nil, api.Entry{}); e != want || !ok || f.State().Rings[0].Tail != 1 {
		t.Error(e, ok)
	}
	if e, ok := world.Offer(nil, nil, api.Entry{}); e != (api.Event{}) || ok {
		t.Error(e, ok)
	}
	if e, ok := world.Step(nil, nil, api.Entry{}); e != (api.Event{}) || ok {
		t.Error(e, ok)
	}
}

// P18.1: a clock past the greatest number is not offered.
func TestLastClock(t *testing.T) {
	f, e := fabric.Load(program(t, "thread\nclock r1\n"), api.State{Threads: make([]api.ThreadState, 1), Now: top - 5})
	if e != api.OK {
		t.Fatal(e)
	}
	if e, ok := world.Offer(f, nil, api.Entry{Clock: 6}); e != (api.Event{}) || ok {
		t.Error(e, ok)
	}
	if e, ok := world.Offer(f, nil, api.Entry{Clock: 5}); e.Value != top || !ok {
		t.Error(e, ok)
	}
}

// P18.3: errors.
func TestRunErrors(t *testing.T) {
	halt := program(t, "thread\nhalt\n")
	long := make([]api.Entry, 65537)
	for _, s := range []struct {
		program api.Program
		tape    []uint64
		script  []api.Entry
		want    api.Errno
	}{
		{api.Program{}, nil, long, api.ErrArg},
		{halt, nil, long, api.ErrLong},
		{halt, make([]uint64, 65537), nil, api.ErrLong},
		{halt, make([]uint64, 65536), long[1:], api.OK},
	} {
		r, e := world.Run(s.program, s.tape, s.script)
		if e != s.want || e != api.OK && !reflect.DeepEqual(r, world.Result{}) {
			t.Error(len(s.script), e)
		}
	}
}

// P18.4: the tape and the script of events.
func TestMake(t *testing.T) {
	p := program(t, "queue 1\nthread\nclock r1\nclock r1\ndraw r1\nread r1 r2\nrecv r1 r2 0 timed 0\nread r1 r2\nthread\nread r1 r2\n")
	l, _, _ := event.Read("0 clock 5\n0 clock 15\n0 draw 9\n0 read 4\n1 read 6\n0 time 0\n0 end\n1 halt\n")
	tape, script, e := world.Make(p, l)
	want := []api.Entry{{Clock: 5}, {Clock: 10}, {Draw: 9}, {}, {Pick: 1}, {Fire: true}, {}, {Pick: 1}}
	if e != api.OK || !slices.Equal(tape, []uint64{4, 6}) || !slices.Equal(script, want) {
		t.Error(tape, script, e)
	}
	result, _ := world.Run(p, tape, script)
	if !event.Same(result.Events, l) || result.Idle+result.Waits != 0 {
		t.Error(result)
	}
	if tape, script, e := world.Make(p, nil); e != api.OK || len(tape)+len(script) != 0 {
		t.Error(tape, script, e)
	}
}

// P18.4: lists that are no records.
func TestMakeErrors(t *testing.T) {
	p := program(t, "thread\nread r1 r2\nhalt\n")
	halt := api.Event{Kind: api.EHalt}
	for _, s := range []struct {
		program api.Program
		events  []api.Event
		want    api.Errno
	}{
		{api.Program{}, make([]api.Event, 65537), api.ErrArg},
		{p, make([]api.Event, 65537), api.ErrLong},
		{p, []api.Event{halt}, api.ErrOrder},
		{p, []api.Event{{Kind: api.EEnd}, halt, halt}, api.ErrOrder},
		{p, []api.Event{{Thread: 1, Kind: api.EHalt}}, api.ErrOrder},
		{p, []api.Event{{Kind: 99}}, api.ErrOrder},
		{p, []api.Event{{Kind: api.ERead, Value: 3}, {}}, api.ErrOrder},
	} {
		tape, script, e := world.Make(s.program, s.events)
		if e != s.want || len(tape)+len(script) != 0 {
			t.Error(s.want, tape, script, e)
		}
	}
}

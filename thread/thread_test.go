package thread_test

import (
	"math/rand"
	"strings"
	"testing"

	"rondeau/api"
	"rondeau/listing"
	"rondeau/thread"
)

const top = 1<<64 - 1

// instrs returns the instructions of these lines.
func instrs(t *testing.T, lines ...string) []api.Instr {
	t.Helper()
	p, line, e := listing.Read("thread\n" + strings.Join(lines, "\n") + "\n")
	if e != api.OK {
		t.Fatal(lines, line, e)
	}
	return p.Threads[0]
}

func next(t *testing.T, l []api.Instr, s api.ThreadState) (api.ThreadState, thread.Ask) {
	t.Helper()
	n, ask, e := thread.Next(l, s)
	if e != api.OK {
		t.Fatal(s, e)
	}
	return n, ask
}

// The numbers of requests.
func TestKinds(t *testing.T) {
	kinds := []int{thread.None, thread.Send, thread.Recv, thread.Close, thread.Clock, thread.Draw, thread.Read, thread.See, thread.Halt, thread.Spin, thread.Publish, thread.Release}
	for want, kind := range kinds {
		if kind != want {
			t.Error(kind, want)
		}
	}
}

// P16.1: instructions that a thread can have.
func TestCode(t *testing.T) {
	for _, s := range []struct {
		list []api.Instr
		want bool
	}{
		{nil, true},
		{[]api.Instr{{Op: api.OJmp, K: 1}}, true},
		{[]api.Instr{{Op: api.OJmp, K: 2}}, false},
		{[]api.Instr{{Op: api.OJz, K: 2}}, false},
		{[]api.Instr{{Op: api.OSet, K: top}}, true},
		{[]api.Instr{{Op: api.OHalt}, {}}, false},
		{[]api.Instr{{Op: api.OSend, C: 7}}, true},
		{make([]api.Instr, 257), false},
	} {
		if thread.Code(s.list) != s.want || thread.Right(s.list, api.ThreadState{}) != s.want {
			t.Error(s)
		}
		if _, _, e := thread.Next(s.list, api.ThreadState{}); (e == api.OK) != s.want || !s.want && e != api.ErrArg {
			t.Error(s, e)
		}
	}
	long := make([]api.Instr, 256)
	for i := range long {
		long[i] = api.Instr{Op: api.OHalt}
	}
	if !thread.Code(long) || thread.Code(append(long, api.Instr{Op: api.OHalt})) {
		t.Error("256 instructions")
	}
}

// P16.1: states that a thread can be in.
func TestRight(t *testing.T) {
	l := instrs(t, "send r1 r2 3 wait", "recv r1 r2 4 wait 5", "see r1")
	for _, s := range []struct {
		state api.ThreadState
		want  bool
	}{
		{api.ThreadState{}, true},
		{api.ThreadState{At: 3}, true},
		{api.ThreadState{At: 4}, false},
		{api.ThreadState{At: -1}, false},
		{api.ThreadState{Status: api.THalted}, true},
		{api.ThreadState{Status: api.TSpun, At: 1}, true},
		{api.ThreadState{Status: 3}, false},
		{api.ThreadState{Status: -1}, false},
		{api.ThreadState{Ring: 3}, false},
		{api.ThreadState{Ticket: 1}, false},
		{api.ThreadState{Phase: 1, Ring: 3}, true},
		{api.ThreadState{Phase: 1, Ring: 3, Ticket: 1<<62 - 1}, true},
		{api.ThreadState{Phase: 1, Ring: 3, Ticket: 1 << 62}, false},
		{api.ThreadState{Phase: 1, Ring: 4}, false},
		{api.ThreadState{Phase: 1, Ring: 3, Status: api.THalted}, false},
		{api.ThreadState{Phase: 1, Ring: 4, At: 1}, false},
		{api.ThreadState{Phase: 1, At: 2}, false},
		{api.ThreadState{Phase: 1, At: 3}, false},
		{api.ThreadState{Phase: 2, Ring: 4, At: 1, Ticket: 9}, true},
		{api.ThreadState{Phase: 2, Ring: 3}, false},
		{api.ThreadState{Phase: 2, Ring: 3, At: 1}, false},
		{api.ThreadState{Phase: 2, Ring: 4, At: 1, Status: api.TSpun}, false},
		{api.ThreadState{Phase: 3}, false},
		{api.ThreadState{Phase: -1}, false},
	} {
		if thread.Right(l, s.state) != s.want {
			t.Error(s)
		}
		_, _, e := thread.Next(l, s.state)
		_, e2 := thread.Do(l, s.state, api.Event{}, 0)
		if s.want && (e != api.OK || e2 != api.ErrForm) || !s.want && (e != api.ErrArg || e2 != api.ErrArg) {
			t.Error(s, e, e2)
		}
	}
}

// P16.2: plain instructions.
func TestPlain(t *testing.T) {
	for _, s := range []struct {
		lines string
		at    int
		regs  [8]uint64
	}{
		{"set r1 5;add r1 r1 r1;see r1;halt", 2, [8]uint64{1: 10}},
		{"set r1 5;mov r2 r1;sub r3 r0 r1;halt", 3, [8]uint64{1: 5, 2: 5, 3: top - 4}},
		{"set r1 7;set r2 2;div r3 r1 r2;mod r4 r1 r2;shl r5 r1 r2;lt r6 r2 r1;eq r7 r1 r1", 7, [8]uint64{1: 7, 2: 2, 3: 3, 4: 1, 5: 28, 6: 1, 7: 1}},
		{"jmp 2;halt;set r1 1", 3, [8]uint64{1: 1}},
		{"jz r1 2;halt;set r2 1;jz r2 0;set r3 1", 5, [8]uint64{2: 1, 3: 1}},
		{"jnz r1 3;set r1 1;jnz r1 4;set r2 2;set r3 3", 5, [8]uint64{1: 1, 3: 3}},
		{"jmp 1", 1, [8]uint64{}},
		{"", 0, [8]uint64{}},
	} {
		var l []api.Instr
		if s.lines != "" {
			l = instrs(t, strings.Split(s.lines, ";")...)
		}
		got, _ := next(t, l, api.ThreadState{})
		if got.At != s.at || got.Regs != s.regs {
			t.Error(s.lines, got)
		}
	}
}

// P16.2: requests.
func TestRequests(t *testing.T) {
	regs := [8]uint64{10, 11, 12, 13, 14, 15, 16, 17}
	for _, s := range []struct {
		line string
		want thread.Ask
	}{
		{"send r1 r2 3 timed", thread.Ask{Kind: thread.Send, Ring: 3, Mode: 2, Value: 11}},
		{"send r7 r2 0 try", thread.Ask{Kind: thread.Send, Value: 17}},
		{"recv r1 r2 3 wait 5", thread.Ask{Kind: thread.Recv, Ring: 3, Mode: 1, Reader: 5}},
		{"close 4", thread.Ask{Kind: thread.Close, Ring: 4}},
		{"clock r1", thread.Ask{Kind: thread.Clock}},
		{"draw r1", thread.Ask{Kind: thread.Draw}},
		{"read r1 r2", thread.Ask{Kind: thread.Read}},
		{"see r1", thread.Ask{Kind: thread.See, Value: 11}},
		{"halt", thread.Ask{Kind: thread.Halt}},
		{"jmp 0", thread.Ask{Kind: thread.Spin}},
	} {
		l := instrs(t, s.line)
		if got, ask := next(t, l, api.ThreadState{Regs: regs}); ask != s.want || got.Regs != regs {
			t.Error(s.line, ask)
		}
		for _, status := range []int{api.THalted, api.TSpun} {
			given := api.ThreadState{Regs: regs, Status: status}
			if got, ask := next(t, l, given); ask != (thread.Ask{}) || !thread.Same(got, given) {
				t.Error(s.line, ask)
			}
		}
	}
	if _, ask := next(t, instrs(t, "see r1"), api.ThreadState{At: 1}); ask != (thread.Ask{Kind: thread.Halt}) {
		t.Error(ask)
	}
	given := api.ThreadState{Phase: 1, Ring: 3, Ticket: 44, Regs: regs, Seen: []uint64{1}}
	if got, ask := next(t, instrs(t, "send r1 r2 3 timed"), given); ask != (thread.Ask{Kind: thread.Publish, Ring: 3, Ticket: 44, Value: 11}) || !thread.Same(got, given) {
		t.Error(ask)
	}
	given = api.ThreadState{Phase: 2, Ring: 3, Ticket: 44, Regs: regs}
	if got, ask := next(t, instrs(t, "recv r1 r2 3 timed 6"), given); ask != (thread.Ask{Kind: thread.Release, Ring: 3, Ticket: 44, Reader: 6}) || !thread.Same(got, given) {
		t.Error(ask)
	}
}

// P16.2: 256 plain instructions are the limit, just before the next plain one.
func TestFuel(t *testing.T) {
	// A loop of two instructions, gone through r1 times.
	l := instrs(t, "sub r1 r1 r2", "jnz r1 0", "see r1")
	got, ask := next(t, l, api.ThreadState{Regs: [8]uint64{1: 128, 2: 1}})
	if ask.Kind != thread.See || got.At != 2 || got.Regs[1] != 0 {
		t.Error(got, ask)
	}
	got, ask = next(t, l, api.ThreadState{Regs: [8]uint64{1: 129, 2: 1}})
	if ask != (thread.Ask{Kind: thread.Spin}) || got.At != 0 || got.Regs[1] != 1 {
		t.Error(got, ask)
	}
	// With a first instruction ahead of the loop the limit falls inside it.
	l = instrs(t, "set r2 1", "sub r1 r1 r2", "jnz r1 1", "halt")
	got, ask = next(t, l, api.ThreadState{Regs: [8]uint64{1: 200}})
	if ask != (thread.Ask{Kind: thread.Spin}) || got.At != 2 || got.Regs[1] != 200-128 {
		t.Error(got, ask)
	}
	spun, e := thread.Do(l, api.ThreadState{Regs: [8]uint64{1: 200}}, api.Event{Kind: api.ESpin}, 0)
	if e != api.OK || spun.Status != api.TSpun || spun.At != 2 || spun.Regs[1] != 200-128 {
		t.Error(spun, e)
	}
	var straight []string
	for range 256 {
		straight = append(straight, "set r1 1")
	}
	if got, ask = next(t, instrs(t, straight...), api.ThreadState{}); ask.Kind != thread.Halt || got.At != 256 {
		t.Error(got, ask)
	}
}

// P16.3: what each event makes of a thread.
func TestDo(t *testing.T) {
	regs := [8]uint64{10, 11, 12, 13, 14, 15, 16, 17}
	set := func(r int, v uint64, more ...uint64) [8]uint64 {
		changed := regs
		changed[r] = v
		if len(more) > 0 {
			changed[more[0]] = more[1]
		}
		return changed
	}
	held := func(phase int) api.ThreadState { return api.ThreadState{Phase: phase, Ring: 3, Ticket: 44} }
	for _, s := range []struct {
		line  string
		from  api.ThreadState
		event api.Event
		want  api.ThreadState
	}{
		{"send r1 r2 3 wait", api.ThreadState{}, api.Event{Kind: api.EClaim, Ring: 3, Ticket: 9}, api.ThreadState{Phase: 1, Ring: 3, Ticket: 9, Regs: regs}},
		{"recv r1 r2 3 wait 0", api.ThreadState{}, api.Event{Kind: api.ETake, Ring: 3, Ticket: 9}, api.ThreadState{Phase: 2, Ring: 3, Ticket: 9, Regs: regs}},
		{"send r1 r2 3 wait", held(1), api.Event{Kind: api.EPublish, Ring: 3, Ticket: 44}, api.ThreadState{At: 1, Regs: set(2, 0)}},
		{"recv r1 r2 3 wait 0", held(2), api.Event{Kind: api.ERelease, Ring: 3, Ticket: 44}, api.ThreadState{At: 1, Regs: set(1, 99, 2, 0)}},
		{"recv r1 r1 3 wait 0", held(2), api.Event{Kind: api.ERelease, Ring: 3, Ticket: 44}, api.ThreadState{At: 1, Regs: set(1, 0)}},
		{"send r1 r2 3 try", api.ThreadState{}, api.Event{Kind: api.ENo, Ring: 3}, api.ThreadState{At: 1, Regs: set(2, 1)}},
		{"recv r1 r2 3 try 0", api.ThreadState{}, api.Event{Kind: api.ENo, Ring: 3}, api.ThreadState{At: 1, Regs: set(2, 1)}},
		{"send r1 r2 3 wait", api.ThreadState{}, api.Event{Kind: api.EShut, Ring: 3}, api.ThreadState{At: 1, Regs: set(2, 2)}},
		{"recv r1 r2 3 timed 0", api.ThreadState{}, api.Event{Kind: api.EShut, Ring: 3}, api.ThreadState{At: 1, Regs: set(2, 2)}},
		{"recv r1 r2 3 timed 0", api.ThreadState{}, api.Event{Kind: api.ETime, Ring: 3}, api.ThreadState{At: 1, Regs: set(2, 3)}},
		{"send r1 r2 3 timed", api.ThreadState{}, api.Event{Kind: api.ETime, Ring: 3}, api.ThreadState{At: 1, Regs: set(2, 3)}},
		{"close 3", api.ThreadState{}, api.Event{Kind: api.EClose, Ring: 3, Ticket: 77}, api.ThreadState{At: 1, Regs: regs}},
		{"clock r5", api.ThreadState{}, api.Event{Kind: api.EClock, Value: 88}, api.ThreadState{At: 1, Regs: set(5, 88)}},
		{"draw r5", api.ThreadState{}, api.Event{Kind: api.EDraw, Value: top}, api.ThreadState{At: 1, Regs: set(5, top)}},
		{"read r5 r6", api.ThreadState{}, api.Event{Kind: api.ERead, Value: 88}, api.ThreadState{At: 1, Regs: set(5, 88, 6, 0)}},
		{"read r5 r5", api.ThreadState{}, api.Event{Kind: api.ERead, Value: 88}, api.ThreadState{At: 1, Regs: set(5, 0)}},
		{"read r5 r6", api.ThreadState{}, api.Event{Kind: api.EEnd}, api.ThreadState{At: 1, Regs: set(6, 1)}},
		{"see r5", api.ThreadState{Seen: []uint64{1}}, api.Event{Kind: api.ESee, Value: 15}, api.ThreadState{At: 1, Regs: regs, Seen: []uint64{1, 15}}},
		{"halt", api.ThreadState{}, api.Event{Kind: api.EHalt}, api.ThreadState{Status: api.THalted, Regs: regs}},
		{"see r1", api.ThreadState{At: 1}, api.Event{Kind: api.EHalt}, api.ThreadState{At: 1, Status: api.THalted, Regs: regs}},
		{"jmp 0", api.ThreadState{}, api.Event{Kind: api.ESpin}, api.ThreadState{Status: api.TSpun, Regs: regs}},
	} {
		s.from.Regs = regs
		s.event.Thread = 5
		l := instrs(t, s.line)
		if got, e := thread.Do(l, s.from, s.event, 99); e != api.OK || !thread.Same(got, s.want) || !thread.Right(l, got) {
			t.Error(s.line, s.event, got, e)
		}
	}
	// The plain instructions before it are executed, too.
	if got, e := thread.Do(instrs(t, "set r1 5", "see r1", "halt"), api.ThreadState{}, api.Event{Kind: api.ESee, Value: 5}, 0); e != api.OK || got.At != 2 || got.Regs[1] != 5 {
		t.Error(got, e)
	}
}

// P16.3: events that do not match.
func TestMatches(t *testing.T) {
	for _, s := range []struct {
		lines string
		kinds []int // of Ring 3, Ticket 0, Value 0
	}{
		{"send r1 r2 3 try", []int{api.EClaim, api.ENo, api.EShut}},
		{"send r1 r2 3 wait", []int{api.EClaim, api.EShut}},
		{"send r1 r2 3 timed", []int{api.EClaim, api.EShut, api.ETime}},
		{"recv r1 r2 3 try 0", []int{api.ETake, api.ENo, api.EShut}},
		{"recv r1 r2 3 wait 0", []int{api.ETake, api.EShut}},
		{"recv r1 r2 3 timed 0", []int{api.ETake, api.EShut, api.ETime}},
		{"send r1 r2 2 timed", nil},
		{"recv r1 r2 2 try 0", nil},
		{"close 3", []int{api.EClose}},
		{"close 2", nil},
		{"clock r1", []int{api.EClock}},
		{"draw r1", []int{api.EDraw}},
		{"read r1 r2", []int{api.ERead, api.EEnd}},
		{"see r1", []int{api.ESee}},
		{"set r1 1;see r1", nil},
		{"halt", []int{api.EHalt}},
		{"jmp 0", []int{api.ESpin}},
	} {
		matching := map[int]bool{}
		for _, kind := range s.kinds {
			matching[kind] = true
		}
		l := instrs(t, strings.Split(s.lines, ";")...)
		for kind := 1; kind <= 15; kind++ {
			e := api.Event{Kind: kind}
			if kind <= 7 || kind == api.EClose {
				e.Ring = 3
			}
			want := api.ErrOrder
			if matching[kind] {
				want = api.OK
			}
			got, err := thread.Do(l, api.ThreadState{}, e, 0)
			if err != want || err != api.OK && !thread.Same(got, api.ThreadState{}) {
				t.Error(s.lines, e, err)
			}
			if _, err := thread.Do(l, api.ThreadState{Status: api.THalted}, e, 0); err != api.ErrOrder {
				t.Error(s.lines, e, err)
			}
		}
	}
	publishing := api.ThreadState{Phase: 1, Ring: 3, Ticket: 4}
	releasing := api.ThreadState{Phase: 2, Ring: 3, Ticket: 4}
	for _, s := range []struct {
		line  string
		from  api.ThreadState
		event api.Event
		want  api.Errno
	}{
		{"send r1 r2 3 try", publishing, api.Event{Kind: api.EPublish, Ring: 3, Ticket: 4}, api.OK},
		{"send r1 r2 3 try", publishing, api.Event{Kind: api.EPublish, Ring: 3, Ticket: 5}, api.ErrOrder},
		{"send r1 r2 3 try", publishing, api.Event{Kind: api.EPublish, Ring: 2, Ticket: 4}, api.ErrOrder},
		{"send r1 r2 3 try", publishing, api.Event{Kind: api.EClaim, Ring: 3, Ticket: 4}, api.ErrOrder},
		{"send r1 r2 3 try", publishing, api.Event{Kind: api.ENo, Ring: 3}, api.ErrOrder},
		{"recv r1 r2 3 try 0", releasing, api.Event{Kind: api.ERelease, Ring: 3, Ticket: 4}, api.OK},
		{"recv r1 r2 3 try 0", releasing, api.Event{Kind: api.ERelease, Ring: 3, Ticket: 3}, api.ErrOrder},
		{"recv r1 r2 3 try 0", releasing, api.Event{Kind: api.ERelease, Ring: 4, Ticket: 4}, api.ErrOrder},
		{"recv r1 r2 3 try 0", releasing, api.Event{Kind: api.EPublish, Ring: 3, Ticket: 4}, api.ErrOrder},
		{"halt", api.ThreadState{}, api.Event{Kind: api.EHalt, Ring: 1}, api.ErrForm},
		{"see r1", api.ThreadState{}, api.Event{Kind: api.EHalt, Thread: 8}, api.ErrForm},
		{"see r1", api.ThreadState{At: 9}, api.Event{Kind: 99}, api.ErrArg},
	} {
		if _, e := thread.Do(instrs(t, s.line), s.from, s.event, 0); e != s.want {
			t.Error(s, e)
		}
	}
}

// P16.3: all fields are compared.
func TestSame(t *testing.T) {
	full := api.ThreadState{At: 1, Phase: 1, Ring: 1, Status: 1, Ticket: 1, Regs: [8]uint64{7: 1}, Seen: []uint64{1, 2}}
	other := make([]api.ThreadState, 8)
	for i := range other {
		other[i] = full
	}
	other[0].At, other[1].Phase, other[2].Ring, other[3].Status, other[4].Ticket = 0, 0, 0, 0, 0
	other[5].Regs[7], other[6].Seen, other[7].Seen = 0, []uint64{1}, []uint64{1, 3}
	for i, o := range other {
		if thread.Same(full, o) || !thread.Same(o, o) {
			t.Error(i)
		}
	}
	if !thread.Same(api.ThreadState{}, api.ThreadState{Seen: []uint64{}}) {
		t.Error("nil and empty")
	}
}

// Rule 5: what was seen is copied.
func TestNothingIsShared(t *testing.T) {
	seen := append(make([]uint64, 0, 9), 7)
	l := instrs(t, "see r1")
	n, _ := next(t, l, api.ThreadState{Seen: seen})
	d, _ := thread.Do(l, api.ThreadState{Seen: seen}, api.Event{Kind: api.ESee}, 0)
	n.Seen[0], d.Seen[0] = 1, 2
	if seen[0] != 7 || seen[:2][1] != 0 || n.Seen[0] != 1 {
		t.Error(seen, n, d)
	}
}

// P16.4: the state that Next returns has the same request (where the plain
// instructions came to their end), and the state after an event is valid.
func TestConsequences(t *testing.T) {
	random := rand.New(rand.NewSource(16))
	pool := []string{"set r1 3", "add r2 r1 r2", "sub r1 r1 r3", "jmp 0", "jz r1 2", "jnz r2 1", "send r1 r2 0 try", "recv r2 r3 1 timed 2", "close 1", "clock r1", "draw r3", "read r1 r2", "see r2", "halt"}
	for range 2000 {
		lines := make([]string, 3+random.Intn(6))
		for i := range lines {
			lines[i] = pool[random.Intn(len(pool))]
		}
		l := instrs(t, lines...)
		s := api.ThreadState{At: random.Intn(len(l) + 1), Regs: [8]uint64{uint64(random.Intn(3)), uint64(random.Intn(3)), uint64(random.Intn(3)), 1}}
		for range 6 {
			n, ask := next(t, l, s)
			again, ask2 := next(t, l, n)
			if ask != ask2 || ask.Kind != thread.Spin && !thread.Same(n, again) || !thread.Right(l, n) {
				t.Fatal(lines, s, n, again, ask, ask2)
			}
			for kind := 1; kind <= 15; kind++ {
				e := api.Event{Kind: kind}
				if kind <= 7 || kind == api.EClose {
					e.Ring = ask.Ring
				}
				if kind == api.ESee {
					e.Value = ask.Value
				}
				if after, err := thread.Do(l, s, e, 1); err == api.OK {
					if !thread.Right(l, after) {
						t.Fatal(lines, s, e, after)
					}
					s = after
					break
				}
			}
		}
	}
}

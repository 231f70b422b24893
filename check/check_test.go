package check_test

import (
	"math/rand"
	"slices"
	"testing"

	"rondeau/api"
	"rondeau/check"
	"rondeau/listing"
)

func program(t *testing.T, text string) api.Program {
	t.Helper()
	p, line, e := listing.Read(text)
	if e != api.OK {
		t.Fatal(text, line, e)
	}
	return p
}

type answer struct {
	thread, at int
	err        api.Errno
}

func threads(l ...[]api.Instr) api.Program { return api.Program{Threads: l} }

// P11.1: programs that are valid, up to each limit.
func TestValid(t *testing.T) {
	for _, text := range []string{
		"thread\n",
		"thread\nhalt\n",
		"queue 1\nqueue 64\ncast 1 1\ncast 64 8\nthread\nrecv r1 r2 3 wait 7\nrecv r1 r2 0 try 0\nclose 3\nsend r1 r2 2 timed\n",
		"thread\njmp 1\nthread\njz r1 2\njnz r1 0\n",
	} {
		p := program(t, text)
		if thread, at, e := check.Check(p); thread != 0 || at != 0 || e != api.OK || !check.Right(p) {
			t.Error(text, thread, at, e)
		}
	}
	full := make([]api.Instr, 256)
	for i := range full {
		full[i] = api.Instr{Op: api.OJmp, K: 256}
	}
	p := api.Program{Rings: slices.Repeat([]api.Ring{{Kind: 1, Cap: 1, Readers: 1}}, 8), Threads: slices.Repeat([][]api.Instr{full}, 8)}
	if thread, at, e := check.Check(p); thread != 0 || at != 0 || e != api.OK {
		t.Error(thread, at, e)
	}
}

// P11.1: the first thing that is wrong, and where.
func TestCheck(t *testing.T) {
	queue := api.Ring{Kind: 1, Cap: 1, Readers: 1}
	wrong := api.Ring{Kind: 9}
	long := make([]api.Instr, 257)
	halt := []api.Instr{{Op: api.OHalt}}
	for _, s := range []struct {
		program api.Program
		want    answer
	}{
		{api.Program{}, answer{0, 0, api.ErrArg}},
		{api.Program{Rings: []api.Ring{wrong}}, answer{0, 0, api.ErrArg}},
		{api.Program{Threads: make([][]api.Instr, 9)}, answer{0, 0, api.ErrArg}},
		{api.Program{Rings: make([]api.Ring, 9), Threads: [][]api.Instr{halt}}, answer{0, 0, api.ErrArg}},
		{api.Program{Rings: []api.Ring{queue, {Kind: 1, Cap: 1, Readers: 2}}, Threads: [][]api.Instr{halt}}, answer{-1, 1, api.ErrRing}},
		{api.Program{Rings: []api.Ring{{Kind: 1, Cap: 1}}, Threads: [][]api.Instr{halt}}, answer{-1, 0, api.ErrRing}},
		{api.Program{Rings: []api.Ring{{Kind: 1, Cap: 0, Readers: 1}}, Threads: [][]api.Instr{halt}}, answer{-1, 0, api.ErrRing}},
		{api.Program{Rings: []api.Ring{{Kind: 1, Cap: 65, Readers: 1}}, Threads: [][]api.Instr{halt}}, answer{-1, 0, api.ErrRing}},
		{api.Program{Rings: []api.Ring{{Kind: 2, Cap: -1, Readers: 1}}, Threads: [][]api.Instr{halt}}, answer{-1, 0, api.ErrRing}},
		{api.Program{Rings: []api.Ring{{Kind: 2, Cap: 1, Readers: 0}}, Threads: [][]api.Instr{halt}}, answer{-1, 0, api.ErrRing}},
		{api.Program{Rings: []api.Ring{{Kind: 2, Cap: 1, Readers: 9}}, Threads: [][]api.Instr{halt}}, answer{-1, 0, api.ErrRing}},
		{api.Program{Rings: []api.Ring{{Kind: 0, Cap: 1, Readers: 1}}, Threads: [][]api.Instr{halt}}, answer{-1, 0, api.ErrRing}},
		{api.Program{Rings: []api.Ring{queue, wrong, wrong}, Threads: [][]api.Instr{long}}, answer{-1, 1, api.ErrRing}},
		{threads(halt, long), answer{1, 256, api.ErrLong}},
		{threads([]api.Instr{{}}, long), answer{0, 0, api.ErrCode}},
		{threads(halt, []api.Instr{{Op: api.OHalt}, {Op: api.OSee, A: 8}}), answer{1, 1, api.ErrCode}},
		{threads([]api.Instr{{Op: api.OJmp, K: 257}}), answer{0, 0, api.ErrCode}},
		{threads([]api.Instr{{Op: api.OJmp, K: 2}}), answer{0, 0, api.ErrRange}},
		{threads([]api.Instr{{Op: api.OHalt}, {Op: api.OJz, K: 4}, {}}), answer{0, 1, api.ErrRange}},
		{threads([]api.Instr{{Op: api.OJnz, K: 256}}), answer{0, 0, api.ErrRange}},
		{threads([]api.Instr{{Op: api.OSet, K: 1 << 40}, {Op: api.OSend}}), answer{0, 1, api.ErrRing}},
		{threads([]api.Instr{{Op: api.OSend, D: 3}}), answer{0, 0, api.ErrCode}},
		{api.Program{Rings: []api.Ring{queue}, Threads: [][]api.Instr{{{Op: api.OJz, A: 0, K: 2}, {Op: api.OClose, C: 1}, {Op: api.OHalt}}}}, answer{0, 1, api.ErrRing}},
		{api.Program{Rings: []api.Ring{queue}, Threads: [][]api.Instr{{{Op: api.ORecv, K: 1}}}}, answer{0, 0, api.ErrRing}},
		{api.Program{Rings: []api.Ring{{Kind: 2, Cap: 1, Readers: 3}}, Threads: [][]api.Instr{{{Op: api.ORecv, K: 2}, {Op: api.ORecv, K: 3}}}}, answer{0, 1, api.ErrRing}},
	} {
		thread, at, e := check.Check(s.program)
		if (answer{thread, at, e}) != s.want || check.Right(s.program) {
			t.Error(s.program, thread, at, e, s.want)
		}
	}
}

// P11.2: reachable positions.
func TestReach(t *testing.T) {
	for _, s := range []struct {
		text string
		want []bool
		ends bool
	}{
		{"thread\n", []bool{true}, true},
		{"thread\nhalt\n", []bool{true, false}, true},
		{"thread\nsee r1\n", []bool{true, true}, true},
		{"thread\njmp 0\n", []bool{true, false}, false},
		{"thread\njmp 1\n", []bool{true, true}, true},
		{"thread\njmp 2\nhalt\njmp 0\n", []bool{true, false, true, false}, false},
		{"thread\njz r1 2\njmp 0\njmp 1\n", []bool{true, true, true, false}, false},
		{"thread\njnz r1 3\njmp 0\nhalt\nsee r1\njmp 3\n", []bool{true, true, false, true, true, false}, false},
		{"thread\njnz r1 4\njmp 0\nhalt\nsee r1\n", []bool{true, true, false, false, true}, true},
		{"thread\nset r1 2\njmp 0\nhalt\n", []bool{true, true, false, false}, false},
	} {
		p := program(t, s.text)
		if got, e := check.Reach(p, 0); !slices.Equal(got, s.want) || e != api.OK {
			t.Error(s.text, got, e)
		}
		if got, e := check.Ends(p, 0); got != s.ends || e != api.OK {
			t.Error(s.text, got, e)
		}
	}
}

// P11.2: the rings of reachable instructions.
func TestTouches(t *testing.T) {
	const rings = "queue 1\nqueue 1\ncast 1 2\nqueue 1\n"
	for _, s := range []struct {
		text string
		want []int
	}{
		{"thread\n", nil},
		{"thread\nclose 3\nrecv r1 r2 2 wait 1\nsend r1 r2 3 wait\nrecv r1 r2 0 wait 0\n", []int{0, 2, 3}},
		{"thread\njmp 2\nclose 3\nclose 1\nhalt\nclose 0\n", []int{1}},
		{"thread\nset r1 1\nsee r1\n", nil},
	} {
		if got, e := check.Touches(program(t, rings+s.text), 0); !slices.Equal(got, s.want) || e != api.OK {
			t.Error(s.text, got, e)
		}
	}
	p := program(t, rings+"thread\nclose 0\nthread\nclose 1\n")
	if got, e := check.Touches(p, 1); !slices.Equal(got, []int{1}) || e != api.OK {
		t.Error(got, e)
	}
}

// P11.2: programs that are not valid, then threads that do not exist.
func TestErrors(t *testing.T) {
	wrong := threads([]api.Instr{{}})
	right := program(t, "thread\nhalt\n")
	for _, s := range []struct {
		program api.Program
		thread  int
		want    api.Errno
	}{{wrong, 0, api.ErrArg}, {wrong, 9, api.ErrArg}, {right, 1, api.ErrRange}, {right, -1, api.ErrRange}, {api.Program{}, 0, api.ErrArg}} {
		if got, e := check.Reach(s.program, s.thread); len(got) != 0 || e != s.want {
			t.Error(s, got, e)
		}
		if got, e := check.Ends(s.program, s.thread); got || e != s.want {
			t.Error(s, got, e)
		}
		if got, e := check.Touches(s.program, s.thread); len(got) != 0 || e != s.want {
			t.Error(s, got, e)
		}
	}
}

// P11.2: reachability is the least set that the successors leave nothing out of.
func TestReachIsClosed(t *testing.T) {
	random := rand.New(rand.NewSource(11))
	for range 300 {
		n := random.Intn(12)
		var l []api.Instr
		for range n {
			l = append(l, []api.Instr{
				{Op: api.OHalt}, {Op: api.OSee}, {Op: api.OJmp, K: uint64(random.Intn(n + 1))},
				{Op: api.OJz, K: uint64(random.Intn(n + 1))}, {Op: api.OJnz, K: uint64(random.Intn(n + 1))},
			}[random.Intn(5)])
		}
		want := make([]bool, n+1)
		want[0] = true
		for range n + 1 {
			for at, i := range l {
				if !want[at] {
					continue
				}
				if i.Op >= api.OJmp && i.Op <= api.OJnz {
					want[i.K] = true
				}
				if i.Op != api.OHalt && i.Op != api.OJmp {
					want[at+1] = true
				}
			}
		}
		if got, e := check.Reach(threads(l), 0); !slices.Equal(got, want) || e != api.OK {
			t.Fatal(l, got, want, e)
		}
	}
}

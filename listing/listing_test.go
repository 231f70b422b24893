package listing_test

import (
	"math/rand"
	"strings"
	"testing"

	"rondeau/api"
	"rondeau/code"
	"rondeau/listing"
)

const top = 1<<64 - 1

var lines = []struct {
	instr api.Instr
	line  string
}{
	{api.Instr{Op: api.OSet, A: 1, K: 300}, "set r1 300"},
	{api.Instr{Op: api.OSet, A: 0, K: top}, "set r0 18446744073709551615"},
	{api.Instr{Op: api.OMov, A: 7, B: 6}, "mov r7 r6"},
	{api.Instr{Op: api.OAdd, A: 1, B: 2, C: 3}, "add r1 r2 r3"},
	{api.Instr{Op: api.OEq, A: 7, B: 0, C: 5}, "eq r7 r0 r5"},
	{api.Instr{Op: api.OShr, A: 7, B: 7, C: 7}, "shr r7 r7 r7"},
	{api.Instr{Op: api.OJmp, K: 256}, "jmp 256"},
	{api.Instr{Op: api.OJz, A: 2, K: 0}, "jz r2 0"},
	{api.Instr{Op: api.OJnz, A: 2, K: 17}, "jnz r2 17"},
	{api.Instr{Op: api.OSend, A: 1, B: 2, C: 0, D: 1}, "send r1 r2 0 wait"},
	{api.Instr{Op: api.OSend, A: 1, B: 2, C: 7, D: 0}, "send r1 r2 7 try"},
	{api.Instr{Op: api.ORecv, A: 1, B: 2, C: 0, D: 1, K: 3}, "recv r1 r2 0 wait 3"},
	{api.Instr{Op: api.ORecv, A: 1, B: 2, C: 3, D: 2, K: 7}, "recv r1 r2 3 timed 7"},
	{api.Instr{Op: api.OClose, C: 7}, "close 7"},
	{api.Instr{Op: api.OClock, A: 3}, "clock r3"},
	{api.Instr{Op: api.ODraw, A: 4}, "draw r4"},
	{api.Instr{Op: api.ORead, A: 4, B: 5}, "read r4 r5"},
	{api.Instr{Op: api.OSee, A: 1}, "see r1"},
	{api.Instr{Op: api.OHalt}, "halt"},
}

// P10.1, P10.2: the lines of instructions.
func TestLines(t *testing.T) {
	for _, s := range lines {
		if got, e := listing.Line(s.instr); got != s.line || e != api.OK {
			t.Errorf("%v: %q %d, wanted %q", s.instr, got, e, s.line)
		}
		p, n, e := listing.Read("thread\n" + s.line + "\n")
		if e != api.OK || n != 0 || len(p.Threads) != 1 || p.Threads[0][0] != s.instr {
			t.Error(s.line, p, n, e)
		}
	}
	for _, i := range []api.Instr{{}, {Op: 26}, {Op: -1}, {Op: api.OSee, A: 8}, {Op: api.OHalt, K: 1}, {Op: api.OSend, D: 3}, {Op: api.OSend, D: -1}, {Op: api.OJmp, K: 257}} {
		if got, e := listing.Line(i); got != "" || e != api.ErrArg {
			t.Error(i, got, e)
		}
	}
}

// P10.1: the text of a program.
func TestPrint(t *testing.T) {
	p := api.Program{
		Rings:   []api.Ring{{Kind: 1, Cap: 4, Readers: 1}},
		Threads: [][]api.Instr{{{Op: api.OSet, A: 1, K: 300}, {Op: api.OSend, A: 1, B: 2, D: 1}, {Op: api.OHalt}}},
	}
	const want = "queue 4\nthread\nset r1 300\nsend r1 r2 0 wait\nhalt\n"
	if got, e := listing.Print(p); got != want || e != api.OK {
		t.Errorf("%q %d", got, e)
	}
	if got, e := listing.Print(api.Program{}); got != "" || e != api.OK {
		t.Errorf("%q %d", got, e)
	}
	p = api.Program{Rings: []api.Ring{{Kind: 2, Cap: 0, Readers: 255}, {Kind: 2, Cap: 255, Readers: 0}, {Kind: 1, Cap: 0, Readers: 1}}, Threads: make([][]api.Instr, 2)}
	if got, e := listing.Print(p); got != "cast 0 255\ncast 255 0\nqueue 0\nthread\nthread\n" || e != api.OK {
		t.Errorf("%q %d", got, e)
	}
}

// P10.1: programs that can't be listed.
func TestPrintErrors(t *testing.T) {
	for _, p := range []api.Program{
		{Rings: make([]api.Ring, 9)},
		{Rings: []api.Ring{{Kind: 1, Cap: 1, Readers: 2}}},
		{Rings: []api.Ring{{Kind: 1, Cap: 1, Readers: 0}}},
		{Rings: []api.Ring{{Kind: 0, Cap: 1, Readers: 1}}},
		{Rings: []api.Ring{{Kind: 3, Cap: 1, Readers: 1}}},
		{Rings: []api.Ring{{Kind: 1, Cap: 256, Readers: 1}}},
		{Rings: []api.Ring{{Kind: 2, Cap: 1, Readers: 256}}},
		{Rings: []api.Ring{{Kind: 2, Cap: -1, Readers: 1}}},
		{Threads: make([][]api.Instr, 9)},
		{Threads: [][]api.Instr{{{Op: api.OHalt}, {}}}},
	} {
		if got, e := listing.Print(p); got != "" || e != api.ErrArg {
			t.Error(p, got, e)
		}
	}
}

// P10.2: the first line that is wrong is told.
func TestReadErrors(t *testing.T) {
	full := "thread\n" + strings.Repeat("halt\n", 256)
	for _, s := range []struct {
		text string
		line int
	}{
		{"\n", 1}, {"queue 4", 1}, {"queue 4\nthread", 2}, {"queue 4\nthread\nhalt", 3}, {"thread\nhalt\n\n", 3},
		{"halt\n", 1}, {"queue 4\nhalt\n", 2}, {"thread\nqueue 4\n", 2}, {"thread\nhalt\ncast 4 1\n", 3},
		{"queue\n", 1}, {"queue 4 1\n", 1}, {"queue 256\n", 1}, {"queue 04\n", 1}, {"queue +4\n", 1}, {"queue  4\n", 1},
		{"queue 4 \n", 1}, {" queue 4\n", 1}, {"queue -1\n", 1}, {"queue 4\r\n", 1}, {"queue 4x\n", 1}, {"queue \n", 1},
		{"cast 4\n", 1}, {"cast 4 1 1\n", 1}, {"cast 4 256\n", 1}, {"cast 256 1\n", 1}, {"ring 4\n", 1}, {"queue 18446744073709551620\n", 1},
		{"thread 0\n", 1}, {"thread \n", 1}, {"Thread\n", 1},
		{strings.Repeat("queue 1\n", 9), 9}, {strings.Repeat("thread\n", 9), 9}, {full + "halt\n", 258},
		{full + "halt", 258}, {strings.Repeat("queue 1\n", 9) + "what", 9},
		{"thread\nset r1\n", 2}, {"thread\nset r1 1 1\n", 2}, {"thread\nset r8 1\n", 2}, {"thread\nset r01 1\n", 2},
		{"thread\nset 1 1\n", 2}, {"thread\nset r 1\n", 2}, {"thread\nset R1 1\n", 2}, {"thread\nset r1 01\n", 2},
		{"thread\nset r1 18446744073709551616\n", 2}, {"thread\nset r1 -1\n", 2}, {"thread\nset r1 0x1\n", 2}, {"thread\nset r1 1_0\n", 2},
		{"thread\nset r1 \n", 2}, {"thread\nset r18446744073709551617 1\n", 2}, {"thread\nset r-1 1\n", 2}, {"thread\nset r9 1\n", 2},
		{"thread\njmp 257\n", 2}, {"thread\njz r1\n", 2}, {"thread\njmp r1 1\n", 2},
		{"thread\nsend r1 r2 8 wait\n", 2}, {"thread\nsend r1 r2 0 1\n", 2}, {"thread\nsend r1 r2 0 waits\n", 2}, {"thread\nsend r1 r2 0\n", 2},
		{"thread\nsend r1 r2 0 wait 0\n", 2}, {"thread\nrecv r1 r2 0 wait\n", 2}, {"thread\nrecv r1 r2 0 wait 8\n", 2}, {"thread\nrecv r1 r2 r0 wait 1\n", 2},
		{"thread\nclose r1\n", 2}, {"thread\nclose 8\n", 2}, {"thread\nhalt 0\n", 2}, {"thread\nnop\n", 2}, {"thread\n set r1 1\n", 2},
		{"thread\nhalt\nhop\nhip\n", 3}, {"\x00\n", 1}, {"thread\nadd r1 r2\n", 2}, {"thread\nsend r1 r2 0 \n", 2},
	} {
		if p, n, e := listing.Read(s.text); e != api.ErrForm || n != s.line || len(p.Rings)+len(p.Threads) != 0 {
			t.Errorf("%q: %v, line %d, %d", s.text, p, n, e)
		}
	}
	for _, s := range []string{"", "queue 255\n", full, strings.Repeat("queue 1\n", 8) + strings.Repeat("thread\n", 8)} {
		if _, n, e := listing.Read(s); e != api.OK || n != 0 {
			t.Errorf("%q: line %d, %d", s, n, e)
		}
	}
}

func someProgram(random *rand.Rand) api.Program {
	var p api.Program
	for range random.Intn(9) {
		r := api.Ring{Kind: 1 + random.Intn(2), Cap: random.Intn(256), Readers: 1}
		if r.Kind == 2 {
			r.Readers = random.Intn(256)
		}
		p.Rings = append(p.Rings, r)
	}
	for range random.Intn(9) {
		var l []api.Instr
		for range random.Intn(6) {
			i := lines[random.Intn(len(lines))].instr
			if i.Op == api.OSet {
				i.K = random.Uint64() >> random.Intn(64)
			}
			if i.Op >= api.OAdd && i.Op <= api.OEq {
				i = api.Instr{Op: 3 + random.Intn(12), A: random.Intn(8), B: random.Intn(8), C: random.Intn(8)}
			}
			l = append(l, i)
		}
		p.Threads = append(p.Threads, l)
	}
	return p
}

// P10.3: programs come back, and a text is a program's, or refused.
func TestProgramsComeBack(t *testing.T) {
	random := rand.New(rand.NewSource(10))
	for range 500 {
		p := someProgram(random)
		text, e := listing.Print(p)
		if e != api.OK {
			t.Fatal(p, e)
		}
		got, n, e := listing.Read(text)
		wanted, _ := code.Print(p)
		if bytes, _ := code.Print(got); bytes != wanted || n != 0 || e != api.OK {
			t.Fatal(text, got, n, e)
		}
		if text == "" {
			continue
		}
		b := []byte(text)
		b[random.Intn(len(b))] = " \n0159abrx"[random.Intn(10)]
		if q, _, e := listing.Read(string(b)); e == api.OK {
			if again, _ := listing.Print(q); again != string(b) {
				t.Fatalf("%q", b)
			}
		}
	}
}

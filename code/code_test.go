package code_test

import (
	"hash/crc32"
	"math/rand"
	"reflect"
	"strings"
	"testing"

	"rondeau/api"
	"rondeau/code"
)

const top = 1<<64 - 1

var all = strings.Fields("set mov add sub mul div mod and or xor shl shr lt eq jmp jz jnz send recv close clock draw read see halt")

// P9.1: plain and visible instructions, and their names.
func TestNames(t *testing.T) {
	for op := -5; op < 300; op++ {
		if code.Plain(op) != (op >= 1 && op <= 17) || code.Seen(op) != (op >= 18 && op <= 25) {
			t.Error(op, code.Plain(op), code.Seen(op))
		}
		want := ""
		if op >= 1 && op <= 25 {
			want = all[op-1]
		}
		if code.Name(op) != want {
			t.Error(op, code.Name(op))
		}
		if got, ok := code.Find(want); want != "" && (got != op || !ok) {
			t.Error(want, got, ok)
		}
	}
	for _, op := range []int{-1 << 63, 1<<63 - 1} {
		if code.Plain(op) || code.Seen(op) || code.Name(op) != "" {
			t.Error(op)
		}
	}
	for _, name := range []string{"", "SET", "Set", "set ", " set", "sets", "se", "nop", "\x00"} {
		if op, ok := code.Find(name); op != 0 || ok {
			t.Errorf("%q: %d", name, op)
		}
	}
}

// limits has, for each instruction, the greatest values of A, B, C, D and K.
var limits = map[int][5]uint64{
	1: {7, 0, 0, 0, top}, 2: {7, 7, 0, 0, 0},
	3: {7, 7, 7, 0, 0}, 4: {7, 7, 7, 0, 0}, 5: {7, 7, 7, 0, 0}, 6: {7, 7, 7, 0, 0}, 7: {7, 7, 7, 0, 0}, 8: {7, 7, 7, 0, 0},
	9: {7, 7, 7, 0, 0}, 10: {7, 7, 7, 0, 0}, 11: {7, 7, 7, 0, 0}, 12: {7, 7, 7, 0, 0}, 13: {7, 7, 7, 0, 0}, 14: {7, 7, 7, 0, 0},
	15: {0, 0, 0, 0, 256}, 16: {7, 0, 0, 0, 256}, 17: {7, 0, 0, 0, 256},
	18: {7, 7, 7, 2, 0}, 19: {7, 7, 7, 2, 7}, 20: {0, 0, 7, 0, 0},
	21: {7, 0, 0, 0, 0}, 22: {7, 0, 0, 0, 0}, 23: {7, 7, 0, 0, 0}, 24: {7, 0, 0, 0, 0}, 25: {0, 0, 0, 0, 0},
}

// P9.1: each field of each instruction, at its ends and past them.
func TestRight(t *testing.T) {
	for op, most := range limits {
		greatest := api.Instr{Op: op, A: int(most[0]), B: int(most[1]), C: int(most[2]), D: int(most[3]), K: most[4]}
		if !code.Right(api.Instr{Op: op}) || !code.Right(greatest) {
			t.Error(code.Name(op), greatest)
		}
		for _, by := range []int{-1, 1} {
			for field := range 4 {
				i := api.Instr{Op: op}
				place := []*int{&i.A, &i.B, &i.C, &i.D}[field]
				if *place = -1; by == 1 {
					*place = int(most[field]) + 1
				}
				if code.Right(i) {
					t.Error(code.Name(op), i)
				}
			}
		}
		if most[4] != top && (code.Right(api.Instr{Op: op, K: most[4] + 1}) || code.Right(api.Instr{Op: op, K: top})) {
			t.Error(code.Name(op), "K")
		}
	}
	for _, op := range []int{-1, 0, 26, 255, 1<<63 - 1} {
		if code.Right(api.Instr{Op: op}) {
			t.Error(op)
		}
	}
}

// P9.1: which ones are jumps.
func TestJumps(t *testing.T) {
	for op := -2; op < 30; op++ {
		if code.Jumps(api.Instr{Op: op}) != (op >= 15 && op <= 17) {
			t.Error(op)
		}
	}
}

func sample() api.Program {
	return api.Program{
		Rings: []api.Ring{{Kind: 1, Cap: 4, Readers: 1}, {Kind: 255, Cap: 0, Readers: 255}},
		Threads: [][]api.Instr{
			{{Op: api.OSet, A: 7, K: 300}, {Op: api.OSend, A: 1, B: 2, C: 3, D: 1}, {Op: api.ORecv, A: 1, B: 2, C: 0, D: 2, K: 7}},
			{},
			{{Op: api.OJnz, A: 1, K: 256}},
		},
	}
}

const sampleText = "\x02\x01\x04\x01\xff\x00\xff\x03" +
	"\x03\x01\x07\x00\x00\x00\xac\x02\x12\x01\x02\x03\x01\x00\x13\x01\x02\x00\x02\x07" +
	"\x00" + "\x01\x11\x01\x00\x00\x00\x80\x02"

// P9.2: the bytes of programs.
func TestPrint(t *testing.T) {
	halt := api.Program{Threads: [][]api.Instr{{{Op: api.OHalt}}}}
	if s, e := code.Print(halt); s != "\x00\x01\x01\x19\x00\x00\x00\x00\x00" || e != api.OK {
		t.Errorf("%x %d", s, e)
	}
	if s, e := code.Print(api.Program{}); s != "\x00\x00" || e != api.OK {
		t.Errorf("%x %d", s, e)
	}
	if s, e := code.Print(sample()); s != sampleText || e != api.OK {
		t.Errorf("%x %d", s, e)
	}
	if p, e := code.Read(sampleText); e != api.OK || len(p.Threads) != 3 || len(p.Threads[1]) != 0 || p.Threads[2][0].K != 256 || !reflect.DeepEqual(p.Rings, sample().Rings) {
		t.Error(p, e)
	}
}

func ringed(r api.Ring) api.Program { return api.Program{Rings: []api.Ring{r}} }

// P9.2: programs that have no encoding, at and past each limit.
func TestEncodable(t *testing.T) {
	full := make([]api.Instr, 256)
	for i := range full {
		full[i].Op = api.OHalt
	}
	for _, s := range []struct {
		program api.Program
		want    api.Errno
	}{
		{api.Program{Rings: make([]api.Ring, 8)}, api.OK},
		{api.Program{Rings: make([]api.Ring, 9)}, api.ErrArg},
		{api.Program{Threads: make([][]api.Instr, 8)}, api.OK},
		{api.Program{Threads: make([][]api.Instr, 9)}, api.ErrArg},
		{api.Program{Threads: [][]api.Instr{full}}, api.OK},
		{api.Program{Threads: [][]api.Instr{append(full, full[0])}}, api.ErrArg},
		{ringed(api.Ring{Kind: 255, Cap: 255, Readers: 255}), api.OK},
		{ringed(api.Ring{Kind: 256}), api.ErrArg},
		{ringed(api.Ring{Cap: 256}), api.ErrArg},
		{ringed(api.Ring{Readers: 256}), api.ErrArg},
		{ringed(api.Ring{Kind: -1}), api.ErrArg},
		{ringed(api.Ring{Cap: -1}), api.ErrArg},
		{ringed(api.Ring{Readers: -1}), api.ErrArg},
		{api.Program{Threads: [][]api.Instr{{{Op: 26}}}}, api.ErrArg},
		{api.Program{Threads: [][]api.Instr{{}, {{Op: 25}, {Op: 25, A: 1}}}}, api.ErrArg},
	} {
		text, e := code.Print(s.program)
		if e != s.want || e != api.OK && text != "" {
			t.Error(len(s.program.Rings), len(s.program.Threads), text, e)
		}
		if got, e := code.Read(text); s.want == api.OK && (e != api.OK || !same(got, s.program)) {
			t.Error(got, e)
		}
		if s.want != api.OK && code.Digest(s.program) != 0 {
			t.Error(code.Digest(s.program))
		}
	}
}

// same compares programs, nil and empty slices being equal.
func same(a, b api.Program) bool {
	x, _ := code.Print(a)
	y, _ := code.Print(b)
	return x == y && len(a.Rings) == len(b.Rings) && len(a.Threads) == len(b.Threads)
}

// P9.2: bytes that are no program.
func TestReadErrors(t *testing.T) {
	for _, s := range []string{
		"", "\x00", "\x01\x01\x01\x00", "\x09", "\x09" + strings.Repeat("\x00", 28), "\x00\x09" + strings.Repeat("\x00", 9),
		"\x00\x00\x00", "\x00\x01\x01\x19\x00\x00\x00\x00", "\x00\x01\x01\x19\x00\x00\x00\x00\x00\x00",
		"\x00\x01\x01\x1a\x00\x00\x00\x00\x00", "\x00\x01\x01\x00\x00\x00\x00\x00\x00", "\x00\x01\x01\x19\x01\x00\x00\x00\x00",
		"\x00\x01\x01\x19\x00\x00\x00\x00\x80\x00", "\x00\x01\x81\x00\x19\x00\x00\x00\x00\x00",
		"\x00\x01\x81\x02" + strings.Repeat("\x19\x00\x00\x00\x00\x00", 257),
		"\x00\x01\xff\xff\xff\xff\xff\xff\xff\xff\xff\x01",
	} {
		if p, e := code.Read(s); e != api.ErrForm || len(p.Rings)+len(p.Threads) != 0 {
			t.Errorf("%x: %v %d", s, p, e)
		}
	}
	for i := range len(sampleText) {
		if _, e := code.Read(sampleText[:i]); e != api.ErrForm {
			t.Error(i, e)
		}
	}
}

func someProgram(random *rand.Rand) api.Program {
	var p api.Program
	for range random.Intn(9) {
		p.Rings = append(p.Rings, api.Ring{Kind: random.Intn(256), Cap: random.Intn(256), Readers: random.Intn(256)})
	}
	for range random.Intn(9) {
		var l []api.Instr
		for range random.Intn(6) {
			op := 1 + random.Intn(25)
			m := limits[op]
			i := api.Instr{Op: op, A: random.Intn(int(m[0]) + 1), B: random.Intn(int(m[1]) + 1), C: random.Intn(int(m[2]) + 1), D: random.Intn(int(m[3]) + 1)}
			if m[4] > 0 {
				i.K = random.Uint64() >> random.Intn(64) % m[4]
			}
			l = append(l, i)
		}
		p.Threads = append(p.Threads, l)
	}
	return p
}

// P9.3: programs come back; and bytes are a program's encoding, or refused.
func TestProgramsComeBack(t *testing.T) {
	random := rand.New(rand.NewSource(9))
	for range 1000 {
		p := someProgram(random)
		s, e := code.Print(p)
		if e != api.OK {
			t.Fatal(p, e)
		}
		got, e := code.Read(s)
		if e != api.OK || len(got.Threads) != len(p.Threads) || len(got.Rings) != len(p.Rings) {
			t.Fatal(p, got, e)
		}
		for i := range p.Rings {
			if p.Rings[i] != got.Rings[i] {
				t.Fatal(p, got)
			}
		}
		for i := range p.Threads {
			if len(p.Threads[i]) != len(got.Threads[i]) {
				t.Fatal(p, got)
			}
			for j := range p.Threads[i] {
				if p.Threads[i][j] != got.Threads[i][j] {
					t.Fatal(p, got)
				}
			}
		}
		b := []byte(s)
		b[random.Intn(len(b))] ^= byte(1 << random.Intn(8))
		if q, e := code.Read(string(b)); e == api.OK {
			if again, _ := code.Print(q); again != string(b) {
				t.Fatalf("%x", b)
			}
		}
	}
}

// P9.4: the digest is the checksum of the encoding.
func TestDigest(t *testing.T) {
	if got, want := code.Digest(sample()), crc32.ChecksumIEEE([]byte(sampleText)); got != want {
		t.Error(got, want)
	}
	if got := code.Digest(api.Program{Rings: make([]api.Ring, 9)}); got != 0 {
		t.Error(got)
	}
	if got := code.Digest(api.Program{}); got != crc32.ChecksumIEEE([]byte{0, 0}) {
		t.Error(got)
	}
}

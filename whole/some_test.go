// Package whole has only tests: what the document promises across layers is
// held against random programs and scripts (by fixed seeds).
package whole

import (
	"math/rand"
	"strconv"
	"testing"

	"rondeau/api"
	"rondeau/check"
	"rondeau/world"
)

// someInstr returns an instruction of a thread of n instructions.
func someInstr(random *rand.Rand, rings []api.Ring, n int, jumps bool) api.Instr {
	a, b, c := random.Intn(4), random.Intn(4), random.Intn(4)
	ring := random.Intn(len(rings))
	switch k := random.Intn(24); {
	case k < 6:
		return api.Instr{Op: api.OSend, A: a, B: b, C: ring, D: random.Intn(3)}
	case k < 12:
		return api.Instr{Op: api.ORecv, A: a, B: b, C: ring, D: random.Intn(3), K: uint64(random.Intn(rings[ring].Readers))}
	case k == 12:
		return api.Instr{Op: api.OClock, A: a}
	case k == 13:
		return api.Instr{Op: api.ODraw, A: a}
	case k == 14:
		return api.Instr{Op: api.ORead, A: a, B: b}
	case k < 18:
		return api.Instr{Op: api.OSee, A: a}
	case k == 18 && jumps:
		return api.Instr{Op: api.OJz + random.Intn(2), A: a, K: uint64(random.Intn(n + 1))}
	case k == 22 && jumps && random.Intn(3) == 0:
		return api.Instr{Op: api.OJmp, K: uint64(random.Intn(n + 1))}
	case k == 19 && random.Intn(4) == 0:
		return api.Instr{Op: api.OClose, C: ring}
	case k == 20 && random.Intn(6) == 0:
		return api.Instr{Op: api.OHalt}
	case k == 21:
		return api.Instr{Op: api.OSet, A: a, K: uint64(random.Intn(3))}
	}
	return api.Instr{Op: 3 + random.Intn(12), A: a, B: b, C: c}
}

// someProgram returns a valid program of a few rings and threads.
func someProgram(random *rand.Rand, jumps bool) api.Program {
	var p api.Program
	for range 1 + random.Intn(3) {
		r := api.Ring{Kind: api.KQueue, Cap: 1 + random.Intn(3), Readers: 1}
		if random.Intn(2) == 0 {
			r.Kind, r.Readers = api.KCast, 1+random.Intn(3)
		}
		p.Rings = append(p.Rings, r)
	}
	for range 1 + random.Intn(5) {
		var l []api.Instr
		n := random.Intn(14)
		for range n {
			l = append(l, someInstr(random, p.Rings, n, jumps))
		}
		p.Threads = append(p.Threads, l)
	}
	return p
}

// someScript returns a script that may name threads that do not exist.
func someScript(random *rand.Rand, p api.Program, n int) []api.Entry {
	var script []api.Entry
	for range random.Intn(n + 1) {
		e := api.Entry{Pick: random.Intn(len(p.Threads)), Clock: uint64(random.Intn(100)), Draw: random.Uint64() >> random.Intn(64), Fire: random.Intn(3) == 0}
		if random.Intn(40) == 0 {
			e.Pick = random.Intn(20) - 5
		}
		script = append(script, e)
	}
	return script
}

// someTape returns a short tape.
func someTape(random *rand.Rand) []uint64 {
	tape := make([]uint64, random.Intn(5))
	for i := range tape {
		tape[i] = uint64(random.Intn(4))
	}
	return tape
}

// run executes a random program under a random script.
func run(t *testing.T, random *rand.Rand, n int) (api.Program, world.Result) {
	t.Helper()
	p := someProgram(random, true)
	if _, _, e := check.Check(p); e != api.OK {
		t.Fatal(p, e)
	}
	result, e := world.Run(p, someTape(random), someScript(random, p, n))
	if e != api.OK {
		t.Fatal(p, e)
	}
	return p, result
}

// each calls a test with its own random source, so many times.
func each(t *testing.T, times int, test func(t *testing.T, random *rand.Rand)) {
	t.Helper()
	for seed := range times {
		if !t.Run(strconv.Itoa(seed), func(t *testing.T) { test(t, rand.New(rand.NewSource(int64(seed)))) }) {
			return
		}
	}
}

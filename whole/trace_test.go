package whole

import (
	"math/rand"
	"reflect"
	"testing"

	"rondeau/api"
	"rondeau/snap"
	"rondeau/trace"
)

// made returns a random program's trace.
func made(t *testing.T, random *rand.Rand, n int) (api.Program, trace.Trace) {
	t.Helper()
	p, result := run(t, random, n)
	tr, e := trace.Make(p, 1+random.Intn(9), result.Events)
	if e != api.OK {
		t.Fatal(p, e)
	}
	return p, tr
}

// P23.1, P23.2, P23.6, W3: traces have their states in their marks, fit their
// program, and come back from bytes.
func TestTracesComeBack(t *testing.T) {
	each(t, 100, func(t *testing.T, random *rand.Rand) {
		p, tr := made(t, random, 60)
		if e := trace.Fits(p, tr); e != api.OK {
			t.Fatal(p, e)
		}
		for i, mark := range tr.Marks {
			if mark.At != (i+1)*tr.Every || !snap.Same(mark.State, state(t, p, tr.Events[:mark.At], false)) {
				t.Fatal(p, mark)
			}
		}
		s, e := trace.Print(tr)
		if e != api.OK {
			t.Fatal(e)
		}
		again, e := trace.Read(s)
		if e != api.OK || !reflect.DeepEqual(again, tr) && len(tr.Events) > 0 {
			t.Fatal(p, tr, again, e)
		}
		// A changed byte is refused, or it makes another trace.
		b := []byte(s)
		b[random.Intn(len(b))] ^= byte(1 + random.Intn(255))
		if other, e := trace.Read(string(b)); e == api.OK {
			if text, _ := trace.Print(other); text != string(b) {
				t.Fatalf("%x", b)
			}
		}
	})
}

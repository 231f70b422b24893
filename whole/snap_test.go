package whole

import (
	"math/rand"
	"testing"

	"rondeau/api"
	"rondeau/fabric"
	"rondeau/snap"
	"rondeau/world"
)

// P22.4: a fabric that is restored at any place goes on as it would have.
func TestRestored(t *testing.T) {
	each(t, 100, func(t *testing.T, random *rand.Rand) {
		p := someProgram(random, true)
		tape, script := someTape(random), someScript(random, p, 60)
		f, _ := fabric.New(p)
		g, _ := fabric.New(p)
		for _, entry := range script {
			a, ok := world.Step(f, tape, entry)
			b, ok2 := world.Step(g, tape, entry)
			if a != b || ok != ok2 || !snap.Same(f.State(), g.State()) {
				t.Fatal(p, a, b)
			}
			text, e := snap.Print(g.State())
			if e != api.OK {
				t.Fatal(p, e)
			}
			if g, e = snap.Load(p, text); e != api.OK {
				t.Fatal(p, e)
			}
		}
	})
}

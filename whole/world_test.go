package whole

import (
	"math/rand"
	"reflect"
	"testing"

	"rondeau/api"
	"rondeau/event"
	"rondeau/fabric"
	"rondeau/world"
)

// P18.1 to P18.3: entries cause events one by one, all of them are performed,
// and each entry that causes none is idle or waits.
func TestRunsAreSteps(t *testing.T) {
	each(t, 300, func(t *testing.T, random *rand.Rand) {
		p := someProgram(random, true)
		tape, script := someTape(random), someScript(random, p, 80)
		result, e := world.Run(p, tape, script)
		if e != api.OK || len(result.Events)+result.Idle+result.Waits != len(script) {
			t.Fatal(p, result, e)
		}
		stepped, _ := fabric.New(p)
		done, _ := fabric.New(p)
		var l []api.Event
		for _, entry := range script {
			offered, ok := world.Offer(stepped, tape, entry)
			e, stepping := world.Step(stepped, tape, entry)
			if offered != e || ok != stepping {
				t.Fatal("offered", offered, ok, "stepped", e, stepping)
			}
			if ok {
				l = append(l, e)
				if !done.Allowed(e) || done.Do(e) != api.OK {
					t.Fatal(p, e, "is not allowed")
				}
			}
		}
		if !event.Same(l, result.Events) || !reflect.DeepEqual(stepped.State(), result.State) || !reflect.DeepEqual(done.State(), result.State) {
			t.Fatal(p, l, result)
		}
	})
}

// P18.4, W4: a record is made again by the script that is made of it.
func TestMadeScripts(t *testing.T) {
	each(t, 300, func(t *testing.T, random *rand.Rand) {
		p, result := run(t, random, 100)
		tape, script, e := world.Make(p, result.Events)
		if e != api.OK {
			t.Fatal(p, e)
		}
		again, e := world.Run(p, tape, script)
		if e != api.OK || !event.Same(again.Events, result.Events) || again.Idle+again.Waits != 0 || !reflect.DeepEqual(again.State, result.State) {
			t.Fatal(p, result, again, e)
		}
	})
}

// W8: without jumps, and with timed waits that expire, all threads end or are
// blocked for good.
func TestTermination(t *testing.T) {
	each(t, 200, func(t *testing.T, random *rand.Rand) {
		p := someProgram(random, false)
		f, _ := fabric.New(p)
		steps := 0
		for moved := true; moved; {
			moved = false
			for pick := range p.Threads {
				if _, ok := world.Step(f, nil, api.Entry{Pick: pick, Fire: true}); ok {
					moved = true
					steps++
				}
			}
			if steps > 2*14*5+5 {
				t.Fatal(p, "goes on")
			}
		}
	})
}

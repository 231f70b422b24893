package whole

import (
	"encoding/hex"
	"math/rand"
	"strconv"
	"strings"
	"testing"

	"rondeau/api"
	"rondeau/code"
	"rondeau/desk"
	"rondeau/event"
	"rondeau/gate"
	"rondeau/listing"
	"rondeau/seek"
	"rondeau/slice"
	"rondeau/trace"
	"rondeau/world"
)

// words returns numbers as a line.
func words(numbers ...int) string {
	var l []string
	for _, n := range numbers {
		l = append(l, strconv.Itoa(n))
	}
	return strings.Join(l, " ") + "\n"
}

// P28.2, P28.4, W3: the desk tells what the layers do.
func TestDesk(t *testing.T) {
	each(t, 80, func(t *testing.T, random *rand.Rand) {
		p := someProgram(random, true)
		text, _ := code.Print(p)
		var script []api.Entry
		digits := ""
		for i := range 1 + random.Intn(60) {
			pick := random.Intn(len(p.Threads) + 1)
			digits += strconv.Itoa(pick)
			script = append(script, api.Entry{Pick: pick, Clock: uint64(i), Draw: uint64(i), Fire: i%2 == 1})
		}
		d := desk.New()
		say := func(line, want string) {
			t.Helper()
			if got := d.Do(line); got != want {
				t.Fatalf("%s: %q, wanted %q", line, got, want)
			}
		}
		result, _ := world.Run(p, []uint64{3, 4}, script)
		l := result.Events
		tr, _ := trace.Make(p, 4, l)
		say("program "+hex.EncodeToString([]byte(text)), "ok\n")
		say("tape 3 4", "ok\n")
		list, _ := listing.Print(p)
		say("listing", list)
		say("record 4 "+digits, "ok "+words(len(l)))
		for range 2 { // once as recorded, once as read from bytes
			lines, _ := event.Print(l)
			say("events", lines)
			i := random.Intn(len(l) + 1)
			s, n, _ := seek.State(p, tr, i)
			told := []int{n}
			for _, q := range s.Threads {
				told = append(told, q.Status, q.At)
			}
			say("seek "+strconv.Itoa(i), words(told...))
			for q := range p.Threads {
				indices, _ := slice.Of(p, l, []int{q})
				say("slice "+strconv.Itoa(q), words(indices...))
				var seen []string
				for _, v := range result.State.Threads[q].Seen {
					seen = append(seen, strconv.FormatUint(v, 10))
				}
				say("seen "+strconv.Itoa(q), strings.Join(seen, " ")+"\n")
			}
			r, _ := gate.Run(p, l, script)
			say("replay "+digits, words(len(r.Order), r.Stalls, r.Idle))
			all := "0123456789"[:len(p.Threads)]
			say("replay "+strings.Repeat(all, len(l)+1), words(len(l), stalls(p, l, all), len(all)*(len(l)+1)-len(l)-stalls(p, l, all)))
			bytes, _ := trace.Print(tr)
			say("bytes", hex.EncodeToString([]byte(bytes))+"\n")
			say("trace "+hex.EncodeToString([]byte(bytes)), "ok "+words(len(l)))
		}
	})
}

// stalls returns how often a replay with these picks, repeated, stalls.
func stalls(p api.Program, l []api.Event, picks string) int {
	var script []api.Entry
	for range len(l) + 1 {
		for _, c := range picks {
			script = append(script, api.Entry{Pick: int(c - '0')})
		}
	}
	r, _ := gate.Run(p, l, script)
	return r.Stalls
}

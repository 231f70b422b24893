package whole

import (
	"reflect"
	"slices"
	"testing"

	"rondeau/api"
	"rondeau/desk"
	"rondeau/event"
	"rondeau/gate"
	"rondeau/judge"
	"rondeau/listing"
	"rondeau/seek"
	"rondeau/slice"
	"rondeau/trace"
	"rondeau/world"
)

// program returns the program of a text.
func program(t *testing.T, text string) api.Program {
	t.Helper()
	p, line, e := listing.Read(text)
	if e != api.OK {
		t.Fatal(text, line, e)
	}
	return p
}

// picks returns a script that picks threads by digits.
func picks(digits string) []api.Entry {
	var script []api.Entry
	for _, d := range digits {
		script = append(script, api.Entry{Pick: int(d - '0')})
	}
	return script
}

// The ten examples of the document.
func TestTenExamples(t *testing.T) {
	p := program(t, "queue 1\nthread\nset r1 9\nsend r1 r2 0 wait\nthread\nrecv r1 r2 0 wait 0\nsee r1\n")
	one, _ := world.Run(p, nil, picks("00111"))
	l := one.Events
	if text, _ := event.Print(l); text != "0 claim 0 0\n0 publish 0 0\n1 take 0 0\n1 release 0 0\n1 see 9\n" {
		t.Error("1", text)
	}
	two, _ := world.Run(p, nil, picks("101101"))
	if text, _ := event.Print(two.Events); text != "0 claim 0 0\n1 take 0 0\n0 publish 0 0\n1 release 0 0\n" || two.Waits != 2 {
		t.Error("2", text, two.Waits)
	}
	three, _ := gate.Run(p, l, picks("101011"))
	if three.Stalls != 1 || !slices.Equal(three.Order, []int{0, 2, 1, 3, 4}) || !slices.Equal(three.State.Threads[1].Seen, []uint64{9}) {
		t.Error("3", three)
	}
	four, _ := gate.Run(p, l, picks("0000"))
	if len(four.Order) != 2 || four.Idle != 2 || len(four.State.Threads[1].Seen) != 0 {
		t.Error("4", four)
	}
	alone := []api.Event{{Thread: 1, Kind: api.ETake}}
	n, _ := judge.First(p, alone)
	if why, _ := judge.Why(p, alone); n != 0 || why != "0: 1 take 0 0, not nothing" {
		t.Error("5", n, why)
	}
	made, _ := trace.Make(p, 2, l)
	text, _ := trace.Print(made)
	parts, _ := trace.Parts(text)
	var kinds []int
	for _, part := range parts {
		kinds = append(kinds, part.Kind)
	}
	b := []byte(text)
	b[parts[2].At+4] ^= 1
	some, e := trace.Parts(string(b))
	if !slices.Equal(kinds, []int{1, 2, 3, 2, 3, 2, 4}) || len(some) != 2 || e != api.ErrSum {
		t.Error("6", kinds, some, e)
	}
	if s, n, e := seek.State(p, made, 3); n != 1 || e != api.OK || !reflect.DeepEqual(s, state(t, p, l[:3], false)) {
		t.Error("7", n, e)
	}
	sender, _ := slice.Of(p, l, []int{0})
	receiver, _ := slice.Of(p, l, []int{1})
	if !slices.Equal(sender, []int{0, 1}) || len(receiver) != 5 {
		t.Error("8", sender, receiver)
	}
	senders := program(t, "queue 1\nthread\nsend r1 r2 0 wait\nthread\nsend r1 r2 0 wait\n")
	nine, _ := world.Run(senders, nil, picks("0011100"))
	if stuck, e := judge.Stuck(senders, nine.Events); !stuck || e != api.OK || len(nine.Events) != 3 {
		t.Error("9", nine.Events, stuck, e)
	}
	if got := desk.New().Do("hop"); got != "error 3\n" {
		t.Error("10", got)
	}
}

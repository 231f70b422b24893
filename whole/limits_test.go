package whole

import (
	"testing"

	"rondeau/api"
	"rondeau/clocks"
	"rondeau/event"
	"rondeau/gate"
	"rondeau/judge"
	"rondeau/order"
	"rondeau/seek"
	"rondeau/slice"
	"rondeau/trace"
	"rondeau/world"
)

// Records of as many events as there may be are taken everywhere, and of one
// more nowhere.
func TestLongestRecord(t *testing.T) {
	p := program(t, "thread\ndraw r1\njmp 0\n")
	script := make([]api.Entry, api.MaxScript)
	result, e := world.Run(p, nil, script)
	if e != api.OK || len(result.Events) != api.MaxEvents {
		t.Fatal(len(result.Events), e)
	}
	for _, s := range []struct {
		events []api.Event
		want   api.Errno
	}{{result.Events, api.OK}, {append(result.Events, result.Events[0]), api.ErrLong}} {
		l := s.events
		_, _, e1 := world.Make(p, l)
		_, _, e2 := order.Needs(p, l)
		_, _, e3 := clocks.Stamps(p, l)
		_, e4 := trace.Make(p, 1000, l)
		_, e5 := judge.First(p, l)
		_, e6 := judge.Why(p, l)
		_, e7 := gate.Run(p, l, script)
		_, e8 := gate.Rounds(p, l, []int{0, 0})
		_, e9 := slice.Sizes(p, l)
		_, e10 := event.Print(l)
		for i, e := range []api.Errno{e1, e2, e3, e4, e5, e6, e7, e8, e9, e10} {
			if e != s.want {
				t.Error(i+1, e, s.want)
			}
		}
	}
	tr, _ := trace.Make(p, 1000, result.Events)
	text, e := trace.Print(tr)
	if e != api.OK || trace.Fits(p, tr) != api.OK {
		t.Fatal(e)
	}
	again, e := trace.Read(text)
	if e != api.OK || !event.Same(again.Events, tr.Events) {
		t.Error(e)
	}
	if _, n, e := seek.State(p, again, api.MaxEvents); n != 536 || e != api.OK {
		t.Error(n, e)
	}
}

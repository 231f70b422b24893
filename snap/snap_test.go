package snap_test

import (
	"math/rand"
	"reflect"
	"testing"

	"rondeau/api"
	"rondeau/fabric"
	"rondeau/listing"
	"rondeau/snap"
	"rondeau/varint"
)

const top = 1<<64 - 1

func full() api.State {
	return api.State{
		Threads: []api.ThreadState{
			{At: 1, Phase: 2, Ring: 3, Status: 4, Ticket: 300, Regs: [8]uint64{5, 6, 7, 8, 9, 10, 11, 12}, Seen: []uint64{13, 14}},
			{At: 65535},
		},
		Rings: []api.RingState{
			{Tail: 15, Heads: []uint64{16, 17}, Closed: true, Slots: []api.Slot{{Stamp: 18, Value: 19, Left: 20}, {Left: 65535}}},
			{},
		},
		Now: 21, Reads: 22, Ended: true,
	}
}

const fullText = "\x02" +
	"\x01\x02\x03\x04\xac\x02\x05\x06\x07\x08\x09\x0a\x0b\x0c\x02\x0d\x0e" +
	"\xff\xff\x03\x00\x00\x00\x00\x00\x00\x00\x00\x00\x00\x00\x00\x00" +
	"\x02" +
	"\x0f\x02\x10\x11\x01\x02\x12\x13\x14\x00\x00\xff\xff\x03" +
	"\x00\x00\x00\x00" +
	"\x15\x16\x01"

// P22.1, P22.2: encodings.
func TestEncoding(t *testing.T) {
	for _, s := range []struct {
		state api.State
		text  string
	}{{api.State{}, "\x00\x00\x00\x00\x00"}, {full(), fullText}} {
		if got, e := snap.Print(s.state); got != s.text || e != api.OK {
			t.Errorf("%x %d, wanted %x", got, e, s.text)
		}
		if got, e := snap.Read(s.text); !snap.Same(got, s.state) || e != api.OK {
			t.Error(got, e)
		}
	}
}

// P22.1: states that have no encoding, at and past each limit.
func TestEncodable(t *testing.T) {
	thread := func(s api.ThreadState) api.State { return api.State{Threads: []api.ThreadState{{}, s}} }
	ring := func(s api.RingState) api.State { return api.State{Rings: []api.RingState{{}, s}} }
	for i, s := range []struct {
		state api.State
		want  api.Errno
	}{
		{api.State{Threads: make([]api.ThreadState, 8), Rings: make([]api.RingState, 8)}, api.OK},
		{api.State{Threads: make([]api.ThreadState, 9)}, api.ErrArg},
		{api.State{Rings: make([]api.RingState, 9)}, api.ErrArg},
		{ring(api.RingState{Heads: make([]uint64, 8), Slots: make([]api.Slot, 64)}), api.OK},
		{ring(api.RingState{Heads: make([]uint64, 9)}), api.ErrArg},
		{ring(api.RingState{Slots: make([]api.Slot, 65)}), api.ErrArg},
		{ring(api.RingState{Slots: []api.Slot{{Left: 65536}}}), api.ErrArg},
		{ring(api.RingState{Slots: []api.Slot{{Left: -1}}}), api.ErrArg},
		{ring(api.RingState{Tail: top, Heads: []uint64{top}, Slots: []api.Slot{{Stamp: top, Value: top, Left: 65535}}}), api.OK},
		{thread(api.ThreadState{Seen: make([]uint64, 65536)}), api.OK},
		{thread(api.ThreadState{Seen: make([]uint64, 65537)}), api.ErrArg},
		{thread(api.ThreadState{At: 65536}), api.ErrArg}, {thread(api.ThreadState{At: -1}), api.ErrArg},
		{thread(api.ThreadState{Phase: 65536}), api.ErrArg}, {thread(api.ThreadState{Phase: -1}), api.ErrArg},
		{thread(api.ThreadState{Ring: 65536}), api.ErrArg}, {thread(api.ThreadState{Ring: -1}), api.ErrArg},
		{thread(api.ThreadState{Status: 65536}), api.ErrArg}, {thread(api.ThreadState{Status: -1}), api.ErrArg},
		{thread(api.ThreadState{At: 65535, Phase: 65535, Ring: 65535, Status: 65535, Ticket: top}), api.OK},
	} {
		text, e := snap.Print(s.state)
		if e != s.want || e != api.OK && text != "" {
			t.Error(i, e)
		}
		if got, e := snap.Read(text); s.want == api.OK && (e != api.OK || !snap.Same(got, s.state)) {
			t.Error(i, got, e)
		}
	}
}

// P22.2: bytes that are no state.
func TestReadErrors(t *testing.T) {
	const thread = "\x00\x00\x00\x00\x00\x00\x00\x00\x00\x00\x00\x00\x00"
	for _, s := range []string{
		"", "\x00\x00\x00\x00", "\x00\x00\x00\x00\x00\x00", "\x00\x00\x00\x00\x02", "\x09", "\x00\x09",
		"\x80\x00\x00\x00\x00\x00", "\x00\x00\x80\x00\x00\x00",
		"\x01\x80\x80\x04" + thread + "\x00\x00\x00\x00",
		"\x01\x00" + thread + "\x01\x00\x00\x00",
		"\x01\x00" + thread[1:] + varint.Print(65537) + "\x00\x00\x00\x00",
		"\x01\x00" + thread[1:] + varint.Print(top) + "\x00\x00\x00\x00",
		"\x00\x01\x00\x09" + thread, "\x00\x01\x00\x00\x02\x00\x00\x00\x00", "\x00\x01\x00\x00\x00\x41" + thread,
		"\x00\x01\x00\x00\x00\x01\x00\x00\x80\x80\x04\x00\x00\x00",
	} {
		if got, e := snap.Read(s); e != api.ErrForm || !reflect.DeepEqual(got, api.State{}) {
			t.Errorf("%x: %v %d", s, got, e)
		}
	}
	for i := range len(fullText) {
		if _, e := snap.Read(fullText[:i]); e != api.ErrForm {
			t.Error(i, e)
		}
	}
}

// P22.1: all fields are compared.
func TestSame(t *testing.T) {
	for i, change := range []func(s *api.State){
		func(s *api.State) { s.Threads = s.Threads[:1] },
		func(s *api.State) { s.Threads[0].At++ },
		func(s *api.State) { s.Threads[1].Seen = []uint64{0} },
		func(s *api.State) { s.Rings = s.Rings[:1] },
		func(s *api.State) { s.Rings[0].Tail++ },
		func(s *api.State) { s.Rings[0].Heads[1]++ },
		func(s *api.State) { s.Rings[0].Heads = s.Rings[0].Heads[:1] },
		func(s *api.State) { s.Rings[0].Closed = false },
		func(s *api.State) { s.Rings[0].Slots = s.Rings[0].Slots[:1] },
		func(s *api.State) { s.Rings[0].Slots[0].Stamp++ },
		func(s *api.State) { s.Rings[0].Slots[0].Value++ },
		func(s *api.State) { s.Rings[0].Slots[0].Left++ },
		func(s *api.State) { s.Now++ },
		func(s *api.State) { s.Reads++ },
		func(s *api.State) { s.Ended = false },
	} {
		other := full()
		if !snap.Same(full(), other) {
			t.Error(i, "before")
		}
		change(&other)
		if snap.Same(full(), other) || snap.Same(other, full()) {
			t.Error(i)
		}
	}
	if !snap.Same(api.State{}, api.State{Threads: []api.ThreadState{}, Rings: []api.RingState{}}) {
		t.Error("nil and empty")
	}
}

// P22.3: fabrics from encodings.
func TestLoad(t *testing.T) {
	p, _, _ := listing.Read("queue 1\nthread\nsend r1 r2 0 wait\nsee r2\n")
	f, _ := fabric.New(p)
	f.Do(api.Event{Kind: api.EClaim})
	text, e := snap.Print(f.State())
	if e != api.OK {
		t.Fatal(e)
	}
	g, e := snap.Load(p, text)
	if e != api.OK || !snap.Same(g.State(), f.State()) {
		t.Fatal(e)
	}
	if g.Do(api.Event{Kind: api.EPublish}) != api.OK || g.Do(api.Event{Kind: api.ESee}) != api.OK {
		t.Error(g.State())
	}
	other, _, _ := listing.Read("queue 1\nthread\nsee r2\n")
	for _, s := range []struct {
		program api.Program
		text    string
		want    api.Errno
	}{
		{api.Program{}, "", api.ErrArg}, {api.Program{}, text, api.ErrArg},
		{p, "", api.ErrForm}, {p, text + "\x00", api.ErrForm}, {p, fullText, api.ErrForm}, {p, "\x00\x00\x00\x00\x00", api.ErrForm}, {other, text, api.ErrForm},
	} {
		if f, e := snap.Load(s.program, s.text); f != nil || e != s.want {
			t.Errorf("%x: %d", s.text, e)
		}
	}
}

// P22.4: bytes are an encoding, or refused.
func TestOnlyEncodings(t *testing.T) {
	random := rand.New(rand.NewSource(22))
	for range 3000 {
		b := []byte(fullText)
		for range 1 + random.Intn(2) {
			b[random.Intn(len(b))] ^= 1 << random.Intn(8)
		}
		if got, e := snap.Read(string(b)); e == api.OK {
			if again, e := snap.Print(got); again != string(b) || e != api.OK {
				t.Fatalf("%x %x", b, again)
			}
		}
	}
}

package chunk_test

import (
	"math/rand"
	"slices"
	"testing"

	"rondeau/api"
	"rondeau/chunk"
	"rondeau/event"
	"rondeau/huff"
	"rondeau/varint"
)

func events(t *testing.T, text string) []api.Event {
	t.Helper()
	l, line, e := event.Read(text)
	if e != api.OK {
		t.Fatal(text, line, e)
	}
	return l
}

// P21.1: streams, thread by thread.
func TestStreams(t *testing.T) {
	for _, s := range []struct{ text, want string }{
		{"", "\x00"},
		{"0 halt\n0 halt\n", "\x01\x00\x01" + "\x01\x0e\x01" + "\x00" + "\x00" + "\x00"},
		// 0 claim 0 5, 0 publish 0 5, 0 no 2: rings 0 0 2, tickets 5 5. 3 see 7: its value.
		{"0 claim 0 5\n3 see 7\n0 publish 0 5\n0 no 2\n",
			"\x03\x00\x00\x03\x00\x00\x01" + // threads 0 3 0 0
				"\x03\x01\x00\x02\x00\x05\x00" + "\x02\x00\x01\x02\x00" + "\x02\x0a\x00" + "\x00" +
				"\x01\x0c\x00" + "\x00" + "\x00" + "\x01\x0e"},
		{"1 clock 9\n1 draw 8\n1 read 8\n1 end\n1 close 3 4\n",
			"\x01\x01\x04" + "\x05\x08\x00\x09\x00\x0a\x00\x0b\x00\x0d\x00" + "\x01\x03\x00" + "\x01\x08" + "\x03\x12\x01\x00"},
	} {
		l := events(t, s.text)
		if got, e := chunk.Streams(l); got != s.want || e != api.OK {
			t.Errorf("%q: %x %d", s.text, got, e)
		}
		packed, e := chunk.Print(l)
		if packed != huff.Pack(s.want) || e != api.OK {
			t.Errorf("%q: %x %d", s.text, packed, e)
		}
		if got, e := chunk.Read(packed, len(l)); !event.Same(got, l) || e != api.OK {
			t.Errorf("%q: %v %d", s.text, got, e)
		}
	}
}

// P21.1: events that are not valid, or too many.
func TestPrintErrors(t *testing.T) {
	halt := api.Event{Kind: api.EHalt}
	for _, s := range []struct {
		events []api.Event
		want   api.Errno
	}{
		{[]api.Event{halt, {}}, api.ErrForm}, {[]api.Event{{Kind: api.EHalt, Thread: 8}}, api.ErrForm},
		{make([]api.Event, 65537), api.ErrLong}, {slices.Repeat([]api.Event{halt}, 65537), api.ErrLong},
	} {
		if got, e := chunk.Print(s.events); got != "" || e != s.want {
			t.Error(len(s.events), e)
		}
		if got, e := chunk.Streams(s.events); got != "" || e != s.want {
			t.Error(len(s.events), e)
		}
	}
}

// P21.2: how many events may be read.
func TestMost(t *testing.T) {
	packed, _ := chunk.Print(events(t, "0 halt\n1 halt\n"))
	for _, s := range []struct {
		text string
		most int
		want api.Errno
	}{
		{packed, -1, api.ErrArg}, {packed, 65537, api.ErrArg}, {"", -1, api.ErrArg}, {"", 65537, api.ErrArg},
		{packed, 0, api.ErrForm}, {packed, 1, api.ErrForm}, {packed, 2, api.OK}, {packed, 65536, api.OK}, {"", 5, api.ErrForm},
	} {
		if l, e := chunk.Read(s.text, s.most); e != s.want || (e == api.OK) != (len(l) == 2) {
			t.Error(s.most, l, e)
		}
	}
	full := slices.Repeat([]api.Event{{Kind: api.EHalt}}, 65536)
	packed, _ = chunk.Print(full)
	if l, e := chunk.Read(packed, 65536); !event.Same(l, full) || e != api.OK {
		t.Error(len(l), e)
	}
	if l, e := chunk.Read(packed, 65535); len(l) != 0 || e != api.ErrForm {
		t.Error(len(l), e)
	}
	empty, _ := chunk.Print(nil)
	if l, e := chunk.Read(empty, 0); len(l) != 0 || e != api.OK {
		t.Error(l, e)
	}
}

// P21.2: streams that are those of no events.
func TestReadErrors(t *testing.T) {
	huge := varint.Print(1<<64 - 1)
	for _, s := range []string{
		"",
		"\x00\x00",
		"\x01\x00\x01" + "\x01\x0e\x01" + "\x00\x00",         // a stream is missing
		"\x01\x00\x01" + "\x01\x0e\x01" + "\x00\x00\x00\x00", // one too many
		"\x01\x08\x01" + "\x01\x0e\x01" + "\x00\x00\x00",     // no such thread
		"\x01\x08\x01", // no such thread, and no streams of it
		"\x01" + huge + "\x01" + "\x01\x0e\x01" + "\x00\x00\x00", // no such thread
		"\x01\x00\x01" + "\x01\x0e\x00" + "\x00\x00\x00",         // too few kinds
		"\x01\x00\x01" + "\x01\x0e\x02" + "\x00\x00\x00",         // too many
		"\x01\x00\x01" + "\x01\x10\x01" + "\x00\x00\x00",         // no such kind
		"\x01\x00\x01" + "\x01\x00\x01" + "\x00\x00\x00",
		"\x01\x00\x01" + "\x01" + huge + "\x01" + "\x00\x00\x00",
		"\x01\x00\x01" + "\x01\x0e\x01" + "\x01\x00\x00" + "\x00\x00", // a ring that nothing uses
		"\x01\x00\x01" + "\x01\x0e\x01" + "\x00" + "\x01\x00" + "\x00",
		"\x01\x00\x01" + "\x01\x0e\x01" + "\x00" + "\x00" + "\x01\x00",
		"\x01\x00\x00" + "\x01\x01\x00" + "\x00" + "\x01\x00" + "\x00",             // the ring is missing
		"\x01\x00\x00" + "\x01\x01\x00" + "\x01\x00\x00" + "\x00" + "\x00",         // the ticket is missing
		"\x01\x00\x00" + "\x01\x01\x00" + "\x01\x08\x00" + "\x01\x00" + "\x00",     // no such ring
		"\x01\x00\x00" + "\x01\x01\x00" + "\x01\x00\x00" + "\x01\x01" + "\x00",     // the ticket 2^64 - 1
		"\x01\x00\x00" + "\x01\x0c\x00" + "\x00" + "\x00" + "\x00",                 // the value is missing
		"\x02\x00\x00\x00\x00" + "\x01\x0e\x01" + "\x00\x00\x00",                   // runs of one value
		"\x01\x80\x00\x01" + "\x01\x0e\x01" + "\x00\x00\x00",                       // a longer form of 0
		"\x01\x00\x01" + "\x02\x0e\x00\x0e\x00" + "\x00\x00\x00",                   // runs of one value
		"\x01\x00\x00" + "\x01\x01\x00" + "\x01\x00\x00" + "\x02\x00\x00" + "\x00", // two tickets
	} {
		if l, e := chunk.Read(huff.Pack(s), 100); len(l) != 0 || e != api.ErrForm {
			t.Errorf("%x: %v %d", s, l, e)
		}
		if l, e := chunk.Read(s, 100); len(l) != 0 || e != api.ErrForm {
			t.Errorf("%x: %v %d", s, l, e)
		}
	}
}

func someEvents(random *rand.Rand) []api.Event {
	l := make([]api.Event, random.Intn(30))
	for i := range l {
		for {
			l[i] = api.Event{Thread: random.Intn(8), Kind: 1 + random.Intn(15)}
			if random.Intn(2) == 0 {
				l[i].Ring = random.Intn(3)
			}
			if random.Intn(2) == 0 {
				l[i].Ticket = random.Uint64() >> (2 + random.Intn(62))
			}
			if random.Intn(2) == 0 {
				l[i].Value = random.Uint64() >> random.Intn(64)
			}
			if event.Right(l[i]) {
				break
			}
		}
	}
	return l
}

// P21.3: events come back, and bytes are an encoding, or refused.
func TestEventsComeBack(t *testing.T) {
	random := rand.New(rand.NewSource(21))
	for range 500 {
		l := someEvents(random)
		s, e := chunk.Print(l)
		if e != api.OK {
			t.Fatal(l, e)
		}
		if got, e := chunk.Read(s, len(l)); !event.Same(got, l) || e != api.OK {
			t.Fatal(l, got, e)
		}
		streams, _ := chunk.Streams(l)
		b := []byte(streams)
		b[random.Intn(len(b))] ^= 1 << random.Intn(8)
		if got, e := chunk.Read(huff.Pack(string(b)), 65536); e == api.OK {
			if again, _ := chunk.Streams(got); again != string(b) {
				t.Fatalf("%x", b)
			}
		}
	}
}

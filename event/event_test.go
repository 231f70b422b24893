package event_test

import (
	"math/rand"
	"slices"
	"strconv"
	"strings"
	"testing"

	"rondeau/api"
	"rondeau/event"
)

const top = 1<<64 - 1

var kinds = strings.Fields("claim publish take release no shut time clock draw read end see close halt spin")

// uses tells whether a kind uses Ring, Ticket and Value.
func uses(kind int) (bool, bool, bool) {
	ticket := kind >= 1 && kind <= 4 || kind == 13
	return ticket || kind >= 5 && kind <= 7, ticket, kind >= 8 && kind <= 10 || kind == 12
}

// P15.1: kinds and their names.
func TestNames(t *testing.T) {
	for kind := -3; kind < 30; kind++ {
		want := ""
		if kind >= 1 && kind <= 15 {
			want = kinds[kind-1]
			if got, ok := event.Find(want); got != kind || !ok {
				t.Error(want, got, ok)
			}
		}
		ring, _, _ := uses(kind)
		if event.Name(kind) != want || event.Rings(kind) != ring {
			t.Error(kind, event.Name(kind), event.Rings(kind))
		}
	}
	for _, name := range []string{"", "Claim", "claim ", "clai", "wait", "\x00"} {
		if got, ok := event.Find(name); got != 0 || ok {
			t.Errorf("%q %d", name, got)
		}
	}
	if event.Name(-1<<63) != "" || event.Name(1<<63-1) != "" || event.Rings(-1) {
		t.Error("kinds far off")
	}
}

// P15.1: the fields of each kind, at and past their ends.
func TestRight(t *testing.T) {
	for kind := 1; kind <= 15; kind++ {
		ring, ticket, value := uses(kind)
		for _, s := range []struct {
			event api.Event
			want  bool
		}{
			{api.Event{Kind: kind}, true},
			{api.Event{Kind: kind, Thread: 7}, true},
			{api.Event{Kind: kind, Thread: 8}, false},
			{api.Event{Kind: kind, Thread: -1}, false},
			{api.Event{Kind: kind, Ring: 7}, ring},
			{api.Event{Kind: kind, Ring: 8}, false},
			{api.Event{Kind: kind, Ring: -1}, false},
			{api.Event{Kind: kind, Ticket: 1}, ticket},
			{api.Event{Kind: kind, Ticket: 1<<62 - 1}, ticket},
			{api.Event{Kind: kind, Ticket: 1 << 62}, false},
			{api.Event{Kind: kind, Ticket: top}, false},
			{api.Event{Kind: kind, Value: 1}, value},
			{api.Event{Kind: kind, Value: top}, value},
		} {
			if event.Right(s.event) != s.want {
				t.Error(s)
			}
		}
	}
	for _, kind := range []int{-1, 0, 16, 255, -1 << 63} {
		if event.Right(api.Event{Kind: kind}) {
			t.Error(kind)
		}
	}
}

// P15.1: the first event that is not valid.
func TestCheck(t *testing.T) {
	halt := api.Event{Kind: api.EHalt}
	if i, e := event.Check(nil); i != 0 || e != api.OK {
		t.Error(i, e)
	}
	if i, e := event.Check([]api.Event{halt, halt, {}, {Kind: 16}}); i != 2 || e != api.ErrForm {
		t.Error(i, e)
	}
	full := slices.Repeat([]api.Event{halt}, 65536)
	if i, e := event.Check(full); i != 0 || e != api.OK {
		t.Error(i, e)
	}
	full[1] = api.Event{}
	if i, e := event.Check(append(full, halt)); i != 0 || e != api.ErrLong {
		t.Error(i, e)
	}
	if s, e := event.Print(append(full, halt)); s != "" || e != api.ErrLong {
		t.Error(e)
	}
	if i, e := event.Check(full); i != 1 || e != api.ErrForm {
		t.Error(i, e)
	}
}

// P15.1: a thread's events, and equal lists.
func TestOfAndSame(t *testing.T) {
	l := []api.Event{{Thread: 1}, {Thread: -4}, {Thread: 1, Kind: 99}, {Thread: 2}}
	if !slices.Equal(event.Of(l, 1), []int{0, 2}) || !slices.Equal(event.Of(l, -4), []int{1}) || len(event.Of(l, 9)) != 0 || len(event.Of(nil, 0)) != 0 {
		t.Error(event.Of(l, 1), event.Of(l, -4), event.Of(l, 9))
	}
	a := api.Event{Thread: 1, Kind: 2, Ring: 3, Ticket: 4, Value: 5}
	if !event.Same(nil, []api.Event{}) || !event.Same([]api.Event{a, a}, []api.Event{a, a}) || event.Same([]api.Event{a}, []api.Event{a, a}) || event.Same([]api.Event{a, a}, []api.Event{a}) {
		t.Error("lengths")
	}
	b, c, d, e, f := a, a, a, a, a
	b.Thread, c.Kind, d.Ring, e.Ticket, f.Value = 0, 0, 0, 0, 0
	for _, other := range []api.Event{b, c, d, e, f} {
		if event.Same([]api.Event{a, a}, []api.Event{a, other}) {
			t.Error(other)
		}
	}
}

var lines = []struct {
	event api.Event
	line  string
}{
	{api.Event{Thread: 2, Kind: api.EClaim, Ticket: 5}, "2 claim 0 5"},
	{api.Event{Thread: 0, Kind: api.EPublish, Ring: 7, Ticket: 1<<62 - 1}, "0 publish 7 4611686018427387903"},
	{api.Event{Thread: 7, Kind: api.ETake, Ring: 1, Ticket: 10}, "7 take 1 10"},
	{api.Event{Thread: 7, Kind: api.ERelease, Ring: 1, Ticket: 100}, "7 release 1 100"},
	{api.Event{Thread: 1, Kind: api.ENo, Ring: 3}, "1 no 3"},
	{api.Event{Thread: 1, Kind: api.EShut, Ring: 3}, "1 shut 3"},
	{api.Event{Thread: 1, Kind: api.ETime, Ring: 0}, "1 time 0"},
	{api.Event{Thread: 1, Kind: api.EClock, Value: 1048575}, "1 clock 1048575"},
	{api.Event{Thread: 1, Kind: api.EDraw, Value: top}, "1 draw 18446744073709551615"},
	{api.Event{Thread: 1, Kind: api.ERead, Value: 0}, "1 read 0"},
	{api.Event{Thread: 1, Kind: api.EEnd}, "1 end"},
	{api.Event{Thread: 1, Kind: api.ESee, Value: 9}, "1 see 9"},
	{api.Event{Thread: 1, Kind: api.EClose, Ring: 2, Ticket: 3}, "1 close 2 3"},
	{api.Event{Kind: api.EHalt}, "0 halt"},
	{api.Event{Thread: 3, Kind: api.ESpin}, "3 spin"},
}

// P15.2: lines and texts.
func TestText(t *testing.T) {
	var all []api.Event
	var text string
	for _, s := range lines {
		if got, e := event.Line(s.event); got != s.line || e != api.OK {
			t.Errorf("%v: %q %d", s.event, got, e)
		}
		if l, n, e := event.Read(s.line + "\n"); len(l) != 1 || l[0] != s.event || n != 0 || e != api.OK {
			t.Error(s.line, l, n, e)
		}
		all = append(all, s.event)
		text += s.line + "\n"
	}
	if got, e := event.Print(all); got != text || e != api.OK {
		t.Errorf("%q %d", got, e)
	}
	if l, n, e := event.Read(text); !event.Same(l, all) || n != 0 || e != api.OK {
		t.Error(l, n, e)
	}
	if got, e := event.Print(nil); got != "" || e != api.OK {
		t.Error(got, e)
	}
	if l, n, e := event.Read(""); len(l) != 0 || n != 0 || e != api.OK {
		t.Error(l, n, e)
	}
	if got, e := event.Line(api.Event{Kind: api.EHalt, Ring: 1}); got != "" || e != api.ErrForm {
		t.Error(got, e)
	}
	if got, e := event.Print([]api.Event{{Kind: api.EHalt}, {}}); got != "" || e != api.ErrForm {
		t.Error(got, e)
	}
}

// P15.2: the first line that is wrong.
func TestReadErrors(t *testing.T) {
	for _, s := range []struct {
		text string
		line int
	}{
		{"\n", 1}, {"0 halt", 1}, {"0 halt\n0 halt", 2}, {"0 halt\n\n", 2}, {"0 halt\n\n0 halt\n", 2},
		{"halt\n", 1}, {"0\n", 1}, {"0 \n", 1}, {" 0 halt\n", 1}, {"0 halt \n", 1}, {"0  halt\n", 1}, {"0 halt 0\n", 1}, {"0 halt\r\n", 1},
		{"8 halt\n", 1}, {"-1 halt\n", 1}, {"00 halt\n", 1}, {"+1 halt\n", 1}, {"01 halt\n", 1}, {"x halt\n", 1}, {"18446744073709551616 halt\n", 1}, {"4294967296 halt\n", 1},
		{"0 Halt\n", 1}, {"0 14\n", 1}, {"0 \n", 1}, {"0 wait\n", 1},
		{"0 claim\n", 1}, {"0 claim 0\n", 1}, {"0 claim 0 0 0\n", 1}, {"0 claim 8 0\n", 1}, {"0 claim 0 00\n", 1}, {"0 claim 0 \n", 1},
		{"0 claim 0 4611686018427387904\n", 1}, {"0 claim 18446744073709551616 0\n", 1}, {"0 claim 0 x\n", 1}, {"0 claim a 0\n", 1},
		{"0 no\n", 1}, {"0 no 0 0\n", 1}, {"0 see\n", 1}, {"0 see 1 1\n", 1}, {"0 see 01\n", 1}, {"0 see 18446744073709551616\n", 1},
		{"0 see 18446744073709551620\n", 1}, {"0 see 99999999999999999999\n", 1}, {"0 see 28446744073709551615\n", 1}, {"0 see -1\n", 1}, {"0 see /\n", 1}, {"0 see :\n", 1},
		{"0 end 0\n", 1}, {"0 halt\n1 see 2\n2 see\n", 3}, {"\x00\n", 1}, {"0 halt\nx", 2},
		{strings.Repeat("0 halt\n", 65536) + "0 halt\n", 65537}, {strings.Repeat("0 halt\n", 65536) + "0", 65537},
	} {
		if l, n, e := event.Read(s.text); len(l) != 0 || n != s.line || e != api.ErrForm {
			t.Errorf("%.40q: line %d, %d", s.text, n, e)
		}
	}
	if l, n, e := event.Read(strings.Repeat("0 halt\n", 65536)); len(l) != 65536 || n != 0 || e != api.OK {
		t.Error(len(l), n, e)
	}
}

func someEvent(random *rand.Rand) api.Event {
	e := api.Event{Thread: random.Intn(8), Kind: 1 + random.Intn(15)}
	ring, ticket, value := uses(e.Kind)
	if ring {
		e.Ring = random.Intn(8)
	}
	if ticket {
		e.Ticket = random.Uint64() >> (2 + random.Intn(62))
	}
	if value {
		e.Value = random.Uint64() >> random.Intn(64)
	}
	return e
}

// P15.3: events come back, and a text is that of events, or refused.
func TestEventsComeBack(t *testing.T) {
	random := rand.New(rand.NewSource(15))
	for range 2000 {
		var l []api.Event
		for range random.Intn(5) {
			l = append(l, someEvent(random))
		}
		text, e := event.Print(l)
		if e != api.OK {
			t.Fatal(l, e)
		}
		if got, n, e := event.Read(text); !event.Same(got, l) || n != 0 || e != api.OK {
			t.Fatal(text, got, n, e)
		}
		if text == "" {
			continue
		}
		b := []byte(text)
		b[random.Intn(len(b))] = " \n0189hx"[random.Intn(8)]
		if got, _, e := event.Read(string(b)); e == api.OK {
			if again, _ := event.Print(got); again != string(b) {
				t.Fatalf("%q", b)
			}
		}
	}
}

// P15.2: numbers around the greatest one.
func TestGreatNumbers(t *testing.T) {
	for _, n := range []uint64{top, top - 1, top - 5, top / 10, top/10 + 1, 1 << 63} {
		text := "0 see " + strconv.FormatUint(n, 10) + "\n"
		if l, _, e := event.Read(text); e != api.OK || l[0].Value != n {
			t.Error(text, l, e)
		}
	}
}

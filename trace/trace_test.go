package trace_test

import (
	"math/rand"
	"reflect"
	"slices"
	"strings"
	"testing"

	"rondeau/api"
	"rondeau/chunk"
	"rondeau/code"
	"rondeau/crc"
	"rondeau/delta"
	"rondeau/event"
	"rondeau/fabric"
	"rondeau/listing"
	"rondeau/snap"
	"rondeau/trace"
	"rondeau/varint"
)

const pair = "queue 1\nthread\nset r1 9\nsend r1 r2 0 wait\nthread\nrecv r1 r2 0 wait 0\nsee r1\n"

const record = "0 claim 0 0\n0 publish 0 0\n1 take 0 0\n1 release 0 0\n1 see 9\n"

func program(t *testing.T, text string) api.Program {
	t.Helper()
	p, line, e := listing.Read(text)
	if e != api.OK {
		t.Fatal(text, line, e)
	}
	return p
}

func events(t *testing.T, text string) []api.Event {
	t.Helper()
	l, line, e := event.Read(text)
	if e != api.OK {
		t.Fatal(text, line, e)
	}
	return l
}

func must2(t *testing.T, every int) (api.Program, trace.Trace) {
	t.Helper()
	p := program(t, pair)
	made, e := trace.Make(p, every, events(t, record))
	if e != api.OK {
		t.Fatal(e)
	}
	return p, made
}

func text(t *testing.T, made trace.Trace) string {
	t.Helper()
	s, e := trace.Print(made)
	if e != api.OK {
		t.Fatal(e)
	}
	return s
}

func kinds(parts []trace.Part) []int {
	var l []int
	for _, p := range parts {
		l = append(l, p.Kind)
	}
	return l
}

// put returns a chunk.
func put(kind byte, body string) string {
	s := string([]byte{kind}) + varint.Print(uint64(len(body))) + body
	n := crc.Sum(crc.Table(), s)
	return s + string([]byte{byte(n), byte(n >> 8), byte(n >> 16), byte(n >> 24)})
}

// P23.1: traces and their marks.
func TestMake(t *testing.T) {
	p, made := must2(t, 2)
	if made.Sum != code.Digest(p) || made.Threads != 2 || made.Rings != 1 || made.Every != 2 || !event.Same(made.Events, events(t, record)) {
		t.Error(made)
	}
	f, _ := fabric.New(p)
	var want []trace.Mark
	for i, e := range events(t, record) {
		f.Do(e)
		if i == 1 || i == 3 {
			want = append(want, trace.Mark{At: i + 1, State: f.State()})
		}
	}
	if !reflect.DeepEqual(made.Marks, want) {
		t.Error(made.Marks)
	}
	for every, marks := range map[int]int{1: 5, 5: 1, 6: 0, 1024: 0} {
		if _, made := must2(t, every); len(made.Marks) != marks {
			t.Error(every, len(made.Marks))
		}
	}
}

// P23.1: errors.
func TestMakeErrors(t *testing.T) {
	p := program(t, pair)
	l := events(t, record)
	long := make([]api.Event, 65537)
	for _, s := range []struct {
		program api.Program
		every   int
		events  []api.Event
		want    api.Errno
	}{
		{api.Program{}, 2, long, api.ErrArg}, {p, 0, long, api.ErrArg}, {p, 1025, l, api.ErrArg}, {p, -1, l, api.ErrArg},
		{p, 1024, long, api.ErrLong}, {p, 1, l[1:], api.ErrOrder}, {p, 1, append(slices.Clone(l), l[4]), api.ErrOrder}, {p, 1, []api.Event{{}}, api.ErrOrder},
	} {
		if made, e := trace.Make(s.program, s.every, s.events); e != s.want || !reflect.DeepEqual(made, trace.Trace{}) {
			t.Error(s.every, s.want, e)
		}
	}
}

// P23.2: which traces are traces of a program.
func TestFits(t *testing.T) {
	p := program(t, pair)
	other := program(t, "queue 2\n"+strings.TrimPrefix(pair, "queue 1\n"))
	for i, s := range []struct {
		program api.Program
		change  func(t *trace.Trace)
		want    api.Errno
	}{
		{p, func(*trace.Trace) {}, api.OK},
		{api.Program{}, func(*trace.Trace) {}, api.ErrArg},
		{other, func(*trace.Trace) {}, api.ErrDigest},
		{other, func(m *trace.Trace) { m.Every = 3 }, api.ErrArg},
		{p, func(m *trace.Trace) { m.Sum++; m.Events[0].Ticket = 1 }, api.ErrDigest},
		{p, func(m *trace.Trace) { m.Threads = 3 }, api.ErrDigest},
		{p, func(m *trace.Trace) { m.Rings = 0 }, api.ErrDigest},
		{p, func(m *trace.Trace) { m.Events[4].Value = 8; m.Marks[0].State.Now = 1 }, api.ErrOrder},
		{p, func(m *trace.Trace) { m.Events[0].Thread = 7 }, api.ErrOrder},
		{p, func(m *trace.Trace) { m.Marks[0].State.Now = 1 }, api.ErrForm},
		{p, func(m *trace.Trace) { m.Marks[1].State.Threads = nil }, api.ErrForm},
		{p, func(m *trace.Trace) { m.Marks[0], m.Marks[1].State = trace.Mark{2, m.Marks[1].State}, m.Marks[0].State }, api.ErrForm},
	} {
		_, made := must2(t, 2)
		s.change(&made)
		if e := trace.Fits(s.program, made); e != s.want {
			t.Error(i, e)
		}
	}
}

// P23.2, P23.3: traces that have no encoding.
func TestEncodable(t *testing.T) {
	p := program(t, pair)
	for i, s := range []struct {
		change func(t *trace.Trace)
		want   api.Errno
	}{
		{func(*trace.Trace) {}, api.OK},
		{func(m *trace.Trace) { m.Threads, m.Rings, m.Sum = 8, 8, 1 }, api.OK},
		{func(m *trace.Trace) { m.Threads = 9 }, api.ErrArg}, {func(m *trace.Trace) { m.Threads = -1 }, api.ErrArg},
		{func(m *trace.Trace) { m.Rings = 9 }, api.ErrArg}, {func(m *trace.Trace) { m.Rings = -1 }, api.ErrArg},
		{func(m *trace.Trace) { m.Every = 0 }, api.ErrArg}, {func(m *trace.Trace) { m.Every = -2 }, api.ErrArg},
		{func(m *trace.Trace) { m.Every, m.Marks = 1025, nil }, api.ErrArg}, {func(m *trace.Trace) { m.Every, m.Marks = 1024, nil }, api.OK},
		{func(m *trace.Trace) { m.Marks = nil }, api.ErrArg}, {func(m *trace.Trace) { m.Marks = m.Marks[:1] }, api.ErrArg},
		{func(m *trace.Trace) { m.Marks = append(m.Marks, m.Marks[1]) }, api.ErrArg},
		{func(m *trace.Trace) { m.Marks[0].At = 1 }, api.ErrArg}, {func(m *trace.Trace) { m.Marks[1].At = 2 }, api.ErrArg},
		{func(m *trace.Trace) { m.Marks[1].State.Threads[0].At = -1 }, api.ErrArg},
		{func(m *trace.Trace) { m.Marks[1].State = api.State{Now: 7} }, api.OK},
		{func(m *trace.Trace) { m.Events[4].Kind = 0 }, api.ErrArg}, {func(m *trace.Trace) { m.Events[4].Thread = 8 }, api.ErrArg},
		{func(m *trace.Trace) { m.Events[4].Value = 1 << 63 }, api.OK},
		{func(m *trace.Trace) {
			m.Every, m.Marks, m.Events = 1024, make([]trace.Mark, 64), make([]api.Event, 65537)
		}, api.ErrArg},
		{func(m *trace.Trace) { m.Events, m.Marks = nil, nil }, api.OK},
	} {
		_, made := must2(t, 2)
		s.change(&made)
		got, e := trace.Print(made)
		if e != s.want || (e == api.OK) == (got == "") {
			t.Error(i, e)
		}
		if e := trace.Fits(p, made); (e == api.ErrArg) != (s.want == api.ErrArg) {
			t.Error(i, e)
		}
		if e != api.OK {
			continue
		}
		if again, e := trace.Read(got); e != api.OK || text(t, again) != got {
			t.Error(i, again, e)
		}
	}
}

// P23.3: the chunks of an encoding, byte by byte.
func TestPrint(t *testing.T) {
	p, made := must2(t, 2)
	groups := [3]string{}
	for i := range groups {
		groups[i], _ = chunk.Print(made.Events[2*i : min(2*i+2, 5)])
	}
	states := [2]string{}
	for i := range states {
		states[i], _ = snap.Print(made.Marks[i].State)
	}
	sum := code.Digest(p)
	chunks := []string{
		put(1, string([]byte{byte(sum), byte(sum >> 8), byte(sum >> 16), byte(sum >> 24)})+"\x02\x01\x02"),
		put(2, groups[0]), put(3, "\x02"+states[0]), put(2, groups[1]), put(3, "\x04"+states[1]), put(2, groups[2]),
	}
	var sizes []uint64
	for _, c := range chunks {
		sizes = append(sizes, uint64(len(c)))
	}
	want := strings.Join(chunks, "") + put(4, "\x05\x06"+delta.Print(sizes))
	got := text(t, made)
	if got != want {
		t.Errorf("%x, wanted %x", got, want)
	}
	parts, e := trace.Parts(got)
	if !slices.Equal(kinds(parts), []int{1, 2, 3, 2, 3, 2, 4}) || e != api.OK {
		t.Error(parts, e)
	}
	at := 0
	for i, c := range chunks {
		if parts[i].At != at || parts[i].Size != len(c) {
			t.Error(i, parts[i])
		}
		at += len(c)
	}
}

// P23.3: the kinds of chunks for other numbers of events.
func TestKinds(t *testing.T) {
	p := program(t, pair)
	for _, s := range []struct {
		events, every int
		want          []int
	}{
		{0, 2, []int{1, 4}}, {1, 2, []int{1, 2, 4}}, {2, 2, []int{1, 2, 3, 4}}, {3, 2, []int{1, 2, 3, 2, 4}},
		{4, 1, []int{1, 2, 3, 2, 3, 2, 3, 2, 3, 4}}, {4, 1000, []int{1, 2, 4}},
	} {
		made, _ := trace.Make(p, s.every, events(t, record)[:s.events])
		parts, e := trace.Parts(text(t, made))
		if !slices.Equal(kinds(parts), s.want) || e != api.OK {
			t.Error(s, parts, e)
		}
	}
}

// P23.3: encodings that are too long.
func TestTooLong(t *testing.T) {
	random := rand.New(rand.NewSource(23))
	made := trace.Trace{Every: 1}
	for i := range 10 {
		made.Events = append(made.Events, api.Event{Kind: api.EHalt})
		seen := make([]uint64, 60000)
		for j := range seen {
			seen[j] = random.Uint64()
		}
		made.Marks = append(made.Marks, trace.Mark{At: i + 1, State: api.State{Threads: []api.ThreadState{{Seen: seen}}}})
	}
	if s, e := trace.Print(made); s != "" || e != api.ErrLong {
		t.Error(len(s), e)
	}
	made.Events, made.Marks = made.Events[:6], made.Marks[:6]
	s, e := trace.Print(made)
	if e != api.OK {
		t.Fatal(e)
	}
	if again, e := trace.Read(s); e != api.OK || !reflect.DeepEqual(again.Marks, made.Marks) {
		t.Error(e)
	}
}

// sized returns a trace whose encoding has just so many bytes: one that is
// nearly so long, with some of the numbers that a thread saw made longer.
func sized(t *testing.T, size int) trace.Trace {
	t.Helper()
	made := trace.Trace{Every: 1}
	for i := range 7 {
		made.Events = append(made.Events, api.Event{Kind: api.EHalt})
		seen := slices.Repeat([]uint64{1<<63 + 1}, 60000)
		made.Marks = append(made.Marks, trace.Mark{At: i + 1, State: api.State{Threads: []api.ThreadState{{Seen: seen}}}})
	}
	longer := made.Marks[6].State.Threads[0].Seen
	for i := range longer {
		longer[i] = 0
	}
	left := size - len(text(t, made))
	for i := range longer {
		step := min(left, 9)
		if step <= 0 {
			break
		}
		longer[i] = 1 << (7 * step)
		left -= step
	}
	return made
}

// P23.3, P23.4: encodings that are just short enough, and by one byte too long.
func TestLongest(t *testing.T) {
	made := sized(t, api.MaxBytes)
	s, e := trace.Print(made)
	if len(s) != api.MaxBytes || e != api.OK {
		t.Fatal(len(s), e)
	}
	if again, e := trace.Read(s); e != api.OK || !reflect.DeepEqual(again.Marks, made.Marks) {
		t.Error(e)
	}
	if s, e := trace.Print(sized(t, api.MaxBytes+1)); s != "" || e != api.ErrLong {
		t.Error(len(s), e)
	}
}

// P23.4: what is no chunk, and what comes before it.
func TestPartsErrors(t *testing.T) {
	_, made := must2(t, 2)
	s := text(t, made)
	parts, _ := trace.Parts(s)
	for _, c := range []struct {
		tail string
		want api.Errno
	}{
		{"\x00", api.ErrForm}, {"\x05\x00\x00\x00\x00\x00", api.ErrForm}, {"\xff", api.ErrForm},
		{"\x01", api.ErrEnd}, {"\x01\x80", api.ErrEnd}, {"\x01\x80\x00", api.ErrForm}, {"\x02\x05abcd", api.ErrEnd},
		{"\x02\x00", api.ErrEnd}, {"\x02\x00\x00\x00\x00", api.ErrEnd}, {"\x02\x00\x00\x00\x00\x00", api.ErrSum},
		{"\x02" + varint.Print(1<<64-1), api.ErrEnd}, {"\x02" + varint.Print(1<<63) + "abcdefgh", api.ErrEnd},
		{put(3, "ab")[:7], api.ErrEnd}, {put(3, "ab")[:3] + "c" + put(3, "ab")[4:], api.ErrSum},
	} {
		got, e := trace.Parts(s + c.tail)
		if e != c.want || !slices.Equal(got, parts) {
			t.Errorf("%x: %v %d", c.tail, got, e)
		}
		if got, e := trace.Read(s + c.tail); e != c.want || !reflect.DeepEqual(got, trace.Trace{}) {
			t.Errorf("%x: %d", c.tail, e)
		}
		if got, e := trace.Parts(c.tail); e != c.want || len(got) != 0 {
			t.Errorf("%x: %v %d", c.tail, got, e)
		}
	}
	if got, e := trace.Parts(""); len(got) != 0 || e != api.OK {
		t.Error(got, e)
	}
	if got, e := trace.Parts(put(4, "") + put(1, "x")); !slices.Equal(got, []trace.Part{{4, 0, 6}, {1, 6, 7}}) || e != api.OK {
		t.Error(got, e)
	}
	big := put(2, strings.Repeat("x", api.MaxBytes-9))
	if got, e := trace.Parts(big); len(big) != api.MaxBytes || len(got) != 1 || e != api.OK {
		t.Error(len(big), got, e)
	}
	if got, e := trace.Parts(big + "\x00"); len(got) != 0 || e != api.ErrLong {
		t.Error(got, e)
	}
	if _, e := trace.Read(big + "\x00"); e != api.ErrLong {
		t.Error(e)
	}
}

// P23.5: chunks that are no trace.
func TestReadErrors(t *testing.T) {
	_, made := must2(t, 2)
	s := text(t, made)
	parts, _ := trace.Parts(s)
	var chunks []string
	for _, p := range parts {
		chunks = append(chunks, s[p.At:p.At+p.Size])
	}
	join := func(order ...int) string {
		var out string
		for _, i := range order {
			out += chunks[i]
		}
		return out
	}
	head := chunks[0]
	group, _ := chunk.Print(made.Events[:2])
	for i, wrong := range []string{
		"", head, join(6), join(0, 1, 2, 3, 4, 5), join(1, 2, 3, 4, 5, 6), join(0, 1, 2, 3, 4, 5, 6, 6), join(0, 0, 1, 2, 3, 4, 5, 6),
		join(0, 1, 3, 2, 4, 5, 6), join(0, 2, 1, 3, 4, 5, 6), join(0, 1, 2, 3, 4, 6), join(0, 1, 2, 3, 5, 6), join(0, 6, 1, 2, 3, 4, 5), join(0, 6),
		join(0, 5, 6), join(6, 0), join(0, 1, 2, 3, 4, 5, 6, 0),
		head + put(4, "\x00\x01\x01"), head + put(4, "\x01\x01"+delta.Print([]uint64{uint64(len(head))})),
		head + put(4, "\x00\x01"+delta.Print([]uint64{uint64(len(head)) + 1})),
		head + put(4, "\x00\x02"+delta.Print([]uint64{uint64(len(head))})),
		head + put(4, "\x00\x01"+delta.Print([]uint64{uint64(len(head))})+"\x00"),
		put(1, "abcd\x02\x01"), put(1, "abc"), put(1, "abcd\x02\x01\x00") + chunks[6], put(1, "abcd\x02\x01\x81\x08") + chunks[6],
		put(1, "abcd\x09\x01\x02") + put(4, "\x00\x01\x01\x1a"), put(1, "abcd\x02\x09\x02") + put(4, "\x00\x01\x01\x1a"), put(1, "abcd\x02\x01\x02\x00") + put(4, "\x00\x01\x01\x1c"),
		head + put(2, group+"\x00") + join(2, 3, 4, 5, 6), head + put(2, "") + join(2, 3, 4, 5, 6),
		head + chunks[1] + put(3, "") + join(3, 4, 5, 6), head + chunks[1] + put(3, "\x02") + join(3, 4, 5, 6), head + chunks[1] + put(3, "\x03"+"\x00\x00\x00\x00\x00") + join(3, 4, 5, 6),
	} {
		if got, e := trace.Read(wrong); e != api.ErrForm || !reflect.DeepEqual(got, trace.Trace{}) {
			t.Error(i, e)
		}
	}
	if got, e := trace.Read(head + put(4, "\x00\x01"+delta.Print([]uint64{uint64(len(head))}))); e != api.OK || got.Every != 2 {
		t.Error(got, e) // the chunks of a trace without events
	}
	if got, e := trace.Read(s); e != api.OK || !reflect.DeepEqual(got, made) {
		t.Error(e)
	}
}

// P23.6: a changed byte of a body or a checksum is found in its chunk.
func TestChangedBytes(t *testing.T) {
	_, made := must2(t, 2)
	s := text(t, made)
	parts, _ := trace.Parts(s)
	random := rand.New(rand.NewSource(24))
	for i, part := range parts {
		for at := part.At + 2; at < part.At+part.Size; at++ {
			b := []byte(s)
			b[at] ^= byte(1 + random.Intn(255))
			if got, e := trace.Parts(string(b)); !slices.Equal(got, parts[:i]) || e != api.ErrSum {
				t.Fatal(i, at, got, e)
			}
			if _, e := trace.Read(string(b)); e != api.ErrSum {
				t.Fatal(i, at, e)
			}
		}
	}
}

// Rule 5: the events of a trace are a copy.
func TestNothingIsShared(t *testing.T) {
	l := events(t, record)
	made, _ := trace.Make(program(t, pair), 2, l)
	l[0].Ticket = 9
	if made.Events[0].Ticket != 0 {
		t.Error(made.Events)
	}
}

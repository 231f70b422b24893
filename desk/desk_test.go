package desk_test

import (
	"encoding/hex"
	"slices"
	"strings"
	"testing"

	"rondeau/api"
	"rondeau/code"
	"rondeau/desk"
	"rondeau/event"
	"rondeau/listing"
	"rondeau/trace"
)

const pair = "queue 1\nthread\nset r1 9\nsend r1 r2 0 wait\nthread\nrecv r1 r2 0 wait 0\nsee r1\n"

func program(t *testing.T, text string) api.Program {
	t.Helper()
	p, line, e := listing.Read(text)
	if e != api.OK {
		t.Fatal(text, line, e)
	}
	return p
}

// programLine returns the line that makes a text's program that of a desk.
func programLine(t *testing.T, text string) string {
	t.Helper()
	s, e := code.Print(program(t, text))
	if e != api.OK {
		t.Fatal(e)
	}
	return "program " + hex.EncodeToString([]byte(s))
}

// talk holds the output of each line against what is wanted.
func talk(t *testing.T, d *desk.Desk, lines ...string) {
	t.Helper()
	for i := 0; i < len(lines); i += 2 {
		if got := d.Do(lines[i]); got != lines[i+1] {
			t.Errorf("%.60q: %q, wanted %q", lines[i], got, lines[i+1])
		}
	}
}

// P28.2: the commands, one after another.
func TestCommands(t *testing.T) {
	d := desk.New()
	talk(t, d,
		programLine(t, pair), "ok\n",
		"listing", pair,
		"record 2 00111", "ok 5\n",
		"events", "0 claim 0 0\n0 publish 0 0\n1 take 0 0\n1 release 0 0\n1 see 9\n",
		"seek 0", "0 0 0 0 0\n",
		"seek 3", "1 0 2 0 0\n",
		"seek 4", "0 0 2 0 1\n",
		"seek 5", "1 0 2 0 2\n",
		"seek 6", "error 5\n",
		"seen 1", "9\n",
		"seen 0", "\n",
		"seen 2", "error 5\n",
		"replay 10101", "4 1 0\n",
		"replay 0000", "2 0 2\n",
		"replay 9", "0 0 1\n",
		"slice 0", "0 1\n",
		"slice 1", "0 1 2 3 4\n",
		"slice 1 0", "0 1 2 3 4\n",
		"slice 2", "error 5\n",
		"why 0 halt", "fine\n",
		"why 1 see 9", "5: 1 see 9, not halt\n",
		"why 2 halt", "5: 2 halt, not nothing\n",
		"record 1 0", "ok 1\n",
		"slice 1", "\n",
		"record 0 0", "error 1\n",
		"record 1025 0", "error 1\n",
		"record 1024 7", "ok 0\n",
		"events", "",
	)
}

// P28.2: the tape, and what PICKS says of clocks, draws and timed waits.
func TestScripts(t *testing.T) {
	talk(t, desk.New(),
		"tape 7 0 123456789", "ok\n",
		programLine(t, "queue 1\nthread\nread r1 r2\nsee r1\nclock r1\ndraw r1\nrecv r1 r2 0 timed 0\n"), "ok\n",
		"record 9 0", "ok 1\n",
		"events", "0 end\n", // the program took the tape away
		"tape 5", "ok\n",
		"record 9 0000000", "ok 6\n",
		"events", "0 read 5\n0 see 5\n0 clock 2\n0 draw 3\n0 time 0\n0 halt\n",
		"tape 6 7", "ok\n",
		"events", "0 read 5\n0 see 5\n0 clock 2\n0 draw 3\n0 time 0\n0 halt\n",
		"record 9 0100", "ok 3\n",
		"events", "0 read 6\n0 see 6\n0 clock 3\n",
	)
}

// P28.2: the trace as bytes.
func TestBytes(t *testing.T) {
	p := program(t, pair)
	l, _, _ := event.Read("0 claim 0 0\n0 publish 0 0\n1 take 0 0\n")
	made, _ := trace.Make(p, 2, l)
	text, _ := trace.Print(made)
	word := hex.EncodeToString([]byte(text))
	wrong := []byte(text)
	wrong[3] ^= 1
	changed := hex.EncodeToString(wrong)
	d := desk.New()
	talk(t, d,
		programLine(t, pair), "ok\n",
		"trace "+word, "ok 3\n",
		"bytes", word+"\n",
		"events", "0 claim 0 0\n0 publish 0 0\n1 take 0 0\n",
		"trace "+word[:len(word)-2], "error 2\n",
		"trace "+word[2:], "error 3\n",
		"trace "+changed, "error 12\n",
		"bytes", word+"\n",
		programLine(t, "thread\nhalt\n"), "ok\n",
		"bytes", "error 14\n",
		"trace "+word, "error 13\n",
		"bytes", "error 14\n",
	)
	made.Marks[0].State.Now = 1
	text, _ = trace.Print(made)
	talk(t, d, programLine(t, pair), "ok\n", "trace "+hex.EncodeToString([]byte(text)), "error 3\n", "events", "error 14\n")
}

// P28.2: the example lines of the document.
func TestExamples(t *testing.T) {
	talk(t, desk.New(),
		"listing", "error 14\n",
		"program 000101190000000000", "ok\n",
		"listing", "thread\nhalt\n",
		"record 2 00", "ok 1\n",
		"hop", "error 3\n",
	)
}

// P28.2: lines whose form is wrong come before what is missing.
func TestForms(t *testing.T) {
	lines := []string{
		"hop", " ", " listing", "listing ", "Listing", "listing 1", "list", "listing\n", "\n", " #",
		"program", "program ", "program 0", "program 000", "program 0G", "program 0A", "program 00 00", "program  00", "program 0x00", "program 00\n",
		"tape", "tape ", "tape 01", "tape -1", "tape 1234567890", "tape 1 ", "tape 1  2", "tape a", "tape +1", "tape 1\n2", "tape 00",
		"record", "record 2", "record 2 ", "record 2 a", "record 2 0 0", "record a 0", "record 02 0", "record 1234567890 0", "record  2 0", "record 2 0\n",
		"trace", "trace 0", "trace xx", "trace 00 00", "bytes 1", "bytes ", "events 1", "events ",
		"seek", "seek a", "seek 1 2", "seek ", "seek 01", "seek -1", "seen", "seen a", "seen 1 2", "seen ",
		"replay", "replay a", "replay 0 0", "replay ", "replay 0\n", "slice", "slice a", "slice 0 ", "slice 0 a", "slice ",
		"why", "why ", "why 0", "why 0 hop", "why 0 halt ", "why  0 halt", "why 0 halt 0", "why 8 halt", "why 0 claim 0", "why 0 halt\n", "why 0 halt\n0 halt", "why 0 see 01",
	}
	d := desk.New()
	full := desk.New()
	talk(t, full, programLine(t, pair), "ok\n", "record 2 00111", "ok 5\n")
	for _, line := range lines {
		talk(t, d, line, "error 3\n")
		talk(t, full, line, "error 3\n")
	}
	for _, line := range []string{"listing", "record 2 0", "record 0 0", "trace 00", "bytes", "events", "seek 0", "seen 0", "replay 0", "slice 0", "why 0 halt"} {
		talk(t, d, line, "error 14\n")
	}
	talk(t, d, programLine(t, pair), "ok\n")
	for _, line := range []string{"bytes", "events", "seek 0", "seen 0", "replay 0", "slice 0", "why 0 halt"} {
		talk(t, d, line, "error 14\n")
	}
	talk(t, full, "seen 1", "9\n", "tape 999999999 0", "ok\n", "seek 999999999", "error 5\n")
}

// P28.2: programs that are none, or not valid, change nothing.
func TestPrograms(t *testing.T) {
	d := desk.New()
	talk(t, d, programLine(t, pair), "ok\n", "tape 4", "ok\n", "record 2 00111", "ok 5\n",
		"program 00", "error 3\n",
		"program 00010119000000000000", "error 3\n",
		"program 0000", "error 6\n", // no threads
		"program 01010001000000", "error 3\n",
		"program 0101000100", "error 6\n", // a queue without room, and no threads
		"program 010100010100", "error 6\n",
		"program 0001010f0000000002", "error 6\n", // past the end
		"seen 1", "9\n", "listing", pair,
	)
}

// P28.1, P28.2: a nil desk, empty lines and remarks.
func TestNilAndEmpty(t *testing.T) {
	var d *desk.Desk
	talk(t, d, "", "error 15\n", "#", "error 15\n", "listing", "error 15\n", "hop", "error 15\n")
	talk(t, desk.New(), "", "", "#", "", "# hop", "", "#listing\nlisting", "", "#\xff", "")
}

// P28.2: why for as many events as there can be.
func TestWhyTooLong(t *testing.T) {
	d := desk.New()
	talk(t, d, programLine(t, "thread\ndraw r1\njmp 0\n"), "ok\n", "record 1000 "+strings.Repeat("0", 65536), "ok 65536\n", "why 0 draw 1", "error 4\n")
	talk(t, d, "record 1000 "+strings.Repeat("0", 65537), "error 4\n", "replay "+strings.Repeat("0", 65537), "error 4\n", "seek 65536", "536 0 1\n")
	talk(t, d, "tape"+strings.Repeat(" 1", 65537), "ok\n", "record 2 0", "error 4\n")
}

// P28.3: scripts of lines.
func TestRun(t *testing.T) {
	line := programLine(t, pair)
	for _, s := range []struct{ script, want string }{
		{"", ""}, {"\n\n", ""}, {"hop", "error 3\n"}, {"hop\n", "error 3\n"}, {"hop\n\nlisting", "error 3\nerror 14\n"},
		{line + "\n# so\nrecord 2 00111\nseen 1\nlisting", "ok\nok 5\n9\n" + pair},
		{"listing\r\n", "error 3\n"},
	} {
		if got, e := desk.Run(s.script); got != s.want || e != api.OK {
			t.Errorf("%q: %q %d", s.script, got, e)
		}
	}
	if got, e := desk.Run("hop\n#" + strings.Repeat("x", 65531)); got != "error 3\n" || e != api.OK {
		t.Error(got, e)
	}
	if got, e := desk.Run("hop\n#" + strings.Repeat("x", 65532)); got != "" || e != api.ErrLong {
		t.Error(got, e)
	}
	if got, e := desk.Run(strings.Repeat("\n", 65536)); got != "" || e != api.OK {
		t.Error(got, e)
	}
}

// P28.4: what bytes gives can be given to trace, and nothing changes.
func TestBytesComeBack(t *testing.T) {
	for _, s := range []struct{ text, digits string }{
		{pair, "101101100"}, {pair, "7"}, {"thread\njmp 0\n", "0"},
		{"cast 2 2\nthread\nset r1 3\nsend r1 r2 0 wait\nsend r2 r3 0 wait\nclose 0\nthread\nrecv r1 r2 0 wait 0\nsee r1\njz r2 0\nthread\nrecv r1 r2 0 wait 1\nsee r1\njz r2 0\n", "0012012012012012012012012012"},
	} {
		for _, every := range []string{"1", "3", "50"} {
			a, b := desk.New(), desk.New()
			a.Do(programLine(t, s.text))
			b.Do(programLine(t, s.text))
			a.Do("record " + every + " " + s.digits)
			word := strings.TrimSuffix(a.Do("bytes"), "\n")
			if got := b.Do("trace " + word); !strings.HasPrefix(got, "ok ") {
				t.Error(got)
			}
			l, _, _ := event.Read(a.Do("events"))
			threads := len(program(t, s.text).Threads)
			for _, line := range []string{"bytes", "events", "seek 0", "seek 1", "seek 2", "seek 5", "seen 0", "seen 1", "slice 0", "slice 0 1", "replay 0120", "why 0 halt"} {
				if x, y := a.Do(line), b.Do(line); x != y {
					t.Errorf("%s: %q and %q", line, x, y)
				}
			}
			if len(l) == 0 {
				continue
			}
			rounds := strings.Repeat("012"[:threads], len(l))
			if got := strings.Fields(a.Do("replay " + rounds)); !slices.Equal(got[:1], strings.Fields(a.Do("record 1 " + s.digits))[1:]) {
				t.Error(s, got)
			}
		}
	}
}

package desk

import (
	"slices"
	"strconv"
	"strings"

	"rondeau/api"
	"rondeau/check"
	"rondeau/code"
	"rondeau/event"
	"rondeau/gate"
	"rondeau/judge"
	"rondeau/listing"
	"rondeau/seek"
	"rondeau/slice"
	"rondeau/trace"
	"rondeau/world"
)

func (d *Desk) doProgram(words []string) (string, api.Errno) {
	text, ok := readHex(words)
	if err := ready(ok, true); err != api.OK {
		return "", err
	}
	p, err := code.Read(text)
	if err != api.OK {
		return "", err
	}
	if !check.Right(p) {
		return "", api.ErrCode
	}
	*d = Desk{program: p, given: true}
	return output("ok"), api.OK
}

func (d *Desk) doTape(words []string) (string, api.Errno) {
	numbers, ok := readNumbers(words)
	if err := ready(ok, true); err != api.OK {
		return "", err
	}
	d.tape = nil
	for _, n := range numbers {
		d.tape = append(d.tape, uint64(n))
	}
	return output("ok"), api.OK
}

func (d *Desk) doListing(words []string) (string, api.Errno) {
	if err := ready(len(words) == 0, d.given); err != api.OK {
		return "", err
	}
	return listing.Print(d.program)
}

func (d *Desk) doRecord(words []string) (string, api.Errno) {
	if len(words) != 2 {
		return "", api.ErrForm
	}
	every, formed := readNumber(words[0])
	script, ok := readPicks(words[1])
	if err := ready(formed && ok, d.given); err != api.OK {
		return "", err
	}
	result, err := world.Run(d.program, d.tape, script)
	if err != api.OK {
		return "", err
	}
	made, err := trace.Make(d.program, every, result.Events)
	if err != api.OK {
		return "", err
	}
	return d.keep(made), api.OK
}

func (d *Desk) doTrace(words []string) (string, api.Errno) {
	text, ok := readHex(words)
	if err := ready(ok, d.given); err != api.OK {
		return "", err
	}
	made, err := trace.Read(text)
	if err != api.OK {
		return "", err
	}
	if err := trace.Fits(d.program, made); err != api.OK {
		return "", err
	}
	return d.keep(made), api.OK
}

// keep makes a trace that of the desk.
func (d *Desk) keep(made trace.Trace) string {
	d.trace, d.traced = made, true
	return output("ok", strconv.Itoa(len(made.Events)))
}

func (d *Desk) doBytes(words []string) (string, api.Errno) {
	if err := ready(len(words) == 0, d.traced); err != api.OK {
		return "", err
	}
	text, err := trace.Print(d.trace)
	if err != api.OK {
		return "", err
	}
	return output(hexOf(text)), api.OK
}

func (d *Desk) doEvents(words []string) (string, api.Errno) {
	if err := ready(len(words) == 0, d.traced); err != api.OK {
		return "", err
	}
	return event.Print(d.trace.Events)
}

func (d *Desk) doSeek(words []string) (string, api.Errno) {
	numbers, ok := readNumbers(words)
	if err := ready(ok && len(numbers) == 1, d.traced); err != api.OK {
		return "", err
	}
	state, performed, err := seek.State(d.program, d.trace, numbers[0])
	if err != api.OK {
		return "", err
	}
	told := []int{performed}
	for _, t := range state.Threads {
		told = append(told, t.Status, t.At)
	}
	return output(printed(told)...), api.OK
}

func (d *Desk) doSeen(words []string) (string, api.Errno) {
	numbers, ok := readNumbers(words)
	if err := ready(ok && len(numbers) == 1, d.traced); err != api.OK {
		return "", err
	}
	t := numbers[0]
	if t >= len(d.program.Threads) {
		return "", api.ErrRange
	}
	var seen []string
	for _, i := range event.Of(d.trace.Events, t) {
		if e := d.trace.Events[i]; e.Kind == api.ESee {
			seen = append(seen, strconv.FormatUint(e.Value, 10))
		}
	}
	return output(seen...), api.OK
}

func (d *Desk) doReplay(words []string) (string, api.Errno) {
	if len(words) != 1 {
		return "", api.ErrForm
	}
	script, ok := readPicks(words[0])
	if err := ready(ok, d.traced); err != api.OK {
		return "", err
	}
	result, err := gate.Run(d.program, d.trace.Events, script)
	if err != api.OK {
		return "", err
	}
	return output(printed([]int{len(result.Order), result.Stalls, result.Idle})...), api.OK
}

func (d *Desk) doSlice(words []string) (string, api.Errno) {
	threads, ok := readNumbers(words)
	if err := ready(ok, d.traced); err != api.OK {
		return "", err
	}
	indices, err := slice.Of(d.program, d.trace.Events, threads)
	if err != api.OK {
		return "", err
	}
	return output(printed(indices)...), api.OK
}

func (d *Desk) doWhy(words []string) (string, api.Errno) {
	l, _, wrong := event.Read(strings.Join(words, " ") + "\n")
	if err := ready(wrong == api.OK && len(l) == 1, d.traced); err != api.OK {
		return "", err
	}
	why, err := judge.Why(d.program, append(slices.Clone(d.trace.Events), l[0]))
	if err != api.OK {
		return "", err
	}
	if why == "" {
		why = "fine"
	}
	return output(why), api.OK
}

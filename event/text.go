package event

import "rondeau/api"

// Line returns the line of an event, without a line end.
func Line(e api.Event) (string, api.Errno) {
	if !Right(e) {
		return "", api.ErrForm
	}
	return string(grow(nil, e)), api.OK
}

// Print returns the text of a list of events.
func Print(l []api.Event) (string, api.Errno) {
	if _, err := Check(l); err != api.OK {
		return "", err
	}
	var text []byte
	for _, e := range l {
		text = append(grow(text, e), '\n')
	}
	return string(text), api.OK
}

// Read returns the events of a text, or the number of the first line that is
// wrong.
func Read(s string) ([]api.Event, int, api.Errno) {
	var l []api.Event
	for s != "" {
		line, rest, ended := cut(s, '\n')
		e, ok := readLine(line)
		if !ended || !ok || len(l) == api.MaxEvents {
			return nil, len(l) + 1, api.ErrForm
		}
		l = append(l, e)
		s = rest
	}
	return l, 0, api.OK
}

// grow appends the line of an event.
func grow(text []byte, e api.Event) []byte {
	text = growNumber(text, uint64(e.Thread))
	text = append(text, ' ')
	text = append(text, Name(e.Kind)...)
	if Rings(e.Kind) {
		text = growNumber(append(text, ' '), uint64(e.Ring))
	}
	if hasTicket(e.Kind) {
		text = growNumber(append(text, ' '), e.Ticket)
	}
	if hasValue(e.Kind) {
		text = growNumber(append(text, ' '), e.Value)
	}
	return text
}

// growNumber appends a number in decimal.
func growNumber(text []byte, n uint64) []byte {
	if n >= 10 {
		text = growNumber(text, n/10)
	}
	return append(text, '0'+byte(n%10))
}

// readLine returns the event of a line.
func readLine(line string) (api.Event, bool) {
	words := split(line)
	if len(words) < 2 {
		return api.Event{}, false
	}
	kind, ok := Find(words[1])
	fields, wanted := words[2:], 0
	next := func() uint64 { // the number of the next field, as far as there is one
		wanted++
		if wanted > len(fields) {
			return 0
		}
		n, right := number(fields[wanted-1])
		ok = ok && right
		return n
	}
	thread, right := number(words[0])
	e := api.Event{Thread: small(thread), Kind: kind}
	if Rings(kind) {
		e.Ring = small(next())
	}
	if hasTicket(kind) {
		e.Ticket = next()
	}
	if hasValue(kind) {
		e.Value = next()
	}
	if !ok || !right || wanted != len(fields) || !Right(e) {
		return api.Event{}, false
	}
	return e, true
}

// small returns a number as that of a thread or a ring; one that is far too
// great becomes one that is none.
func small(n uint64) int {
	if n > 255 {
		return -1
	}
	return int(n)
}

// split returns the parts of a line between its spaces.
func split(line string) []string {
	var words []string
	for {
		word, rest, found := cut(line, ' ')
		words = append(words, word)
		if !found {
			return words
		}
		line = rest
	}
}

// cut returns what is before and after the first byte b of a string.
func cut(s string, b byte) (string, string, bool) {
	for i := range len(s) {
		if s[i] == b {
			return s[:i], s[i+1:], true
		}
	}
	return s, "", false
}

// number returns the number of a word that is written as numbers are.
func number(word string) (uint64, bool) {
	if word == "" || len(word) > 1 && word[0] == '0' {
		return 0, false
	}
	var n uint64
	for i := range len(word) {
		digit := uint64(word[i]) - '0'
		if digit > 9 || n > (1<<64-1-digit)/10 {
			return 0, false
		}
		n = n*10 + digit
	}
	return n, true
}

package trace

import (
	"rondeau/api"
	"rondeau/chunk"
	"rondeau/crc"
	"rondeau/octet"
	"rondeau/snap"
	"rondeau/varint"
)

// Part is a chunk: its kind, where it begins, and how many bytes it has.
type Part struct{ Kind, At, Size int }

// Parts returns the chunks that a string begins with, and why it does not
// consist of chunks.
func Parts(s string) ([]Part, api.Errno) {
	if len(s) > api.MaxBytes {
		return nil, api.ErrLong
	}
	table := crc.Table()
	var parts []Part
	for at := 0; at < len(s); {
		kind, size, err := first(table, s[at:])
		if err != api.OK {
			return parts, err
		}
		parts = append(parts, Part{Kind: kind, At: at, Size: size})
		at += size
	}
	return parts, api.OK
}

// first returns the kind and the size of the chunk that a string begins with.
func first(table [256]uint32, s string) (int, int, api.Errno) {
	r := octet.New(s)
	kind, _ := r.Byte()
	if kind < kindHead || kind > kindEnd {
		return 0, 0, api.ErrForm
	}
	length, err := varint.Read(r)
	if err != api.OK {
		return 0, 0, err
	}
	if length > uint64(r.Left()) {
		return 0, 0, api.ErrEnd
	}
	r.Take(int(length))
	summed := r.At()
	sum, err := r.Four()
	if err != api.OK {
		return 0, 0, err
	}
	if sum != crc.Sum(table, s[:summed]) {
		return 0, 0, api.ErrSum
	}
	return int(kind), r.At(), api.OK
}

// thrown is an error that ends the reading of a trace.
type thrown struct{ err api.Errno }

// must throws an error, if there is one.
func must(err api.Errno) {
	if err != api.OK {
		panic(thrown{err})
	}
}

// Read returns the trace of an encoding.
func Read(s string) (t Trace, err api.Errno) {
	defer func() {
		if caught := recover(); caught != nil {
			t, err = Trace{}, api.ErrForm
			if x, ok := caught.(thrown); ok {
				err = x.err
			}
		}
	}()
	parts, wrong := Parts(s)
	must(wrong)
	for i, part := range parts {
		t.add(i, part.Kind, body(s, part))
	}
	// The chunks are read one by one; that they are those of this trace, in
	// their order and with the right end, is told by printing it again.
	again, wrong := Print(t)
	if wrong != api.OK || again != s {
		panic(thrown{api.ErrForm})
	}
	return t, api.OK
}

// body returns the body of a chunk.
func body(s string, part Part) string {
	r := octet.New(s[part.At+1 : part.At+part.Size-sumSize])
	varint.Read(r)
	text, _ := r.Take(r.Left())
	return text
}

// add puts what a chunk says into a trace, or throws ErrForm.
func (t *Trace) add(index, kind int, body string) {
	if (index == 0) != (kind == kindHead) {
		panic(thrown{api.ErrForm})
	}
	switch kind {
	case kindHead:
		t.readHead(body)
	case kindEvents:
		l, err := chunk.Read(body, t.Every)
		if err != api.OK || len(t.Events)+len(l) > api.MaxEvents {
			panic(thrown{api.ErrForm})
		}
		t.Events = append(t.Events, l...)
	case kindMark:
		t.Marks = append(t.Marks, readMark(body))
	}
}

// readHead reads the body of the first chunk.
func (t *Trace) readHead(body string) {
	r := octet.New(body)
	sum, err1 := r.Four()
	threads, err2 := r.Byte()
	rings, err3 := r.Byte()
	every, err4 := varint.Read(r)
	if err1 != api.OK || err2 != api.OK || err3 != api.OK || err4 != api.OK || every > mostEvery {
		panic(thrown{api.ErrForm})
	}
	t.Sum, t.Threads, t.Rings, t.Every = sum, int(threads), int(rings), int(every)
}

// readMark reads the body of a mark's chunk.
func readMark(body string) Mark {
	r := octet.New(body)
	at, err := varint.Read(r)
	if err != api.OK || at > api.MaxEvents {
		panic(thrown{api.ErrForm})
	}
	text, _ := r.Take(r.Left())
	state, err := snap.Read(text)
	must(err)
	return Mark{At: int(at), State: state}
}

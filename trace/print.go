package trace

import (
	"rondeau/api"
	"rondeau/chunk"
	"rondeau/crc"
	"rondeau/delta"
	"rondeau/octet"
	"rondeau/snap"
	"rondeau/varint"
)

// The kinds of chunks.
const (
	kindHead = iota + 1
	kindEvents
	kindMark
	kindEnd
)

// sumSize is how many bytes the checksum of a chunk has.
const sumSize = 4

// Print returns the encoding of a trace.
func Print(t Trace) (string, api.Errno) {
	if !encodable(t) {
		return "", api.ErrArg
	}
	b := builder{table: crc.Table()}
	b.put(kindHead, head(t))
	for from := 0; from < len(t.Events); from += t.Every {
		to := min(from+t.Every, len(t.Events))
		events, _ := chunk.Print(t.Events[from:to])
		b.put(kindEvents, events)
		if to == from+t.Every {
			m := t.Marks[from/t.Every]
			state, _ := snap.Print(m.State)
			b.put(kindMark, varint.Print(uint64(m.At))+state)
		}
	}
	b.put(kindEnd, varint.Print(uint64(len(t.Events)))+varint.Print(uint64(len(b.sizes)))+delta.Print(b.sizes))
	text := b.text.String()
	if len(text) > api.MaxBytes {
		return "", api.ErrLong
	}
	return text, api.OK
}

// head returns the body of the first chunk.
func head(t Trace) string {
	var w octet.Writer
	w.Four(t.Sum)
	w.Put(byte(t.Threads), byte(t.Rings))
	w.Text(varint.Print(uint64(t.Every)))
	return w.String()
}

// builder puts chunks together and keeps their sizes.
type builder struct {
	table [256]uint32
	text  octet.Writer
	sizes []uint64
}

// put appends a chunk.
func (b *builder) put(kind byte, body string) {
	var w octet.Writer
	w.Put(kind)
	w.Text(varint.Print(uint64(len(body))))
	w.Text(body)
	w.Four(crc.Sum(b.table, w.String()))
	made := w.String()
	b.text.Text(made)
	b.sizes = append(b.sizes, uint64(len(made)))
}

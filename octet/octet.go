// Package octet is layer 1: it reads and writes byte strings sequentially.
// See shared/doc/01-octet.md.
package octet

import "rondeau/api"

// Reader reads a byte string from the front to the end.
type Reader struct {
	text string
	at   int
}

// Writer collects bytes; its zero value is empty.
type Writer struct{ bytes []byte }

// New returns a reader at the front of s.
func New(s string) *Reader { return &Reader{text: s} }

// Byte reads the next byte.
func (r *Reader) Byte() (byte, api.Errno) {
	b, err := r.Take(1)
	if err != api.OK {
		return 0, err
	}
	return b[0], api.OK
}

// Take reads the next n bytes.
func (r *Reader) Take(n int) (string, api.Errno) {
	if r == nil {
		return "", api.ErrNil
	}
	if n < 0 {
		return "", api.ErrArg
	}
	if n > r.Left() {
		return "", api.ErrEnd
	}
	taken := r.text[r.at : r.at+n]
	r.at += n
	return taken, api.OK
}

// Four reads the next four bytes as a number, the lowest byte first.
func (r *Reader) Four() (uint32, api.Errno) {
	b, err := r.Take(4)
	if err != api.OK {
		return 0, err
	}
	return uint32(b[0]) | uint32(b[1])<<8 | uint32(b[2])<<16 | uint32(b[3])<<24, api.OK
}

// At returns how many bytes have been read.
func (r *Reader) At() int {
	if r == nil {
		return 0
	}
	return r.at
}

// Left returns how many bytes have not been read.
func (r *Reader) Left() int {
	if r == nil {
		return 0
	}
	return len(r.text) - r.at
}

// Put appends bytes.
func (w *Writer) Put(b ...byte) {
	if w == nil {
		return
	}
	w.bytes = append(w.bytes, b...)
}

// Text appends the bytes of a string.
func (w *Writer) Text(s string) {
	if w == nil {
		return
	}
	w.bytes = append(w.bytes, s...)
}

// Four appends the four bytes of a number, the lowest first.
func (w *Writer) Four(n uint32) {
	w.Put(byte(n), byte(n>>8), byte(n>>16), byte(n>>24))
}

// String returns all appended bytes.
func (w *Writer) String() string {
	if w == nil {
		return ""
	}
	return string(w.bytes)
}

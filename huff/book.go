package huff

import (
	"rondeau/api"
	"rondeau/bits"
)

// book has the bytes that have a code, ordered by their codes. The codes of
// one length are consecutive, so their number says where each byte stands.
type book struct {
	counts [longest + 1]int
	bytes  []byte
}

// newBook returns the book of codes that have these lengths.
func newBook(lengths [256]uint8) book {
	var made book
	coded := 0
	for _, length := range lengths {
		if length > 0 {
			made.counts[length]++
			coded++
		}
	}
	var next [longest + 1]int // where the next byte of each length goes
	for length := 1; length < longest; length++ {
		next[length+1] = next[length] + made.counts[length]
	}
	made.bytes = make([]byte, coded)
	for b, length := range lengths {
		if length > 0 {
			made.bytes[next[length]] = byte(b)
			next[length]++
		}
	}
	return made
}

// next reads the code of a byte.
func (k book) next(r *bits.Reader) (byte, bool) {
	above := 0 // the code read so far, counted from the first code of its length
	passed := 0
	for length := 1; length <= longest; length++ {
		bit, err := r.Take(1)
		if err != api.OK {
			return 0, false
		}
		above = above*2 + int(bit)
		if above < k.counts[length] {
			return k.bytes[passed+above], true
		}
		above -= k.counts[length]
		passed += k.counts[length]
	}
	return 0, false
}

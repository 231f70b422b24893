package bits_test

import (
	"math/rand"
	"testing"

	"rondeau/api"
	"rondeau/bits"
)

// P6.1: bits fill bytes from the most significant one on.
func TestPut(t *testing.T) {
	var w bits.Writer
	if w.Len() != 0 || w.String() != "" {
		t.Error(w.Len(), w.String())
	}
	if e := w.Put(5, 3); e != api.OK {
		t.Error(e)
	}
	if e := w.Put(1, 1); e != api.OK || w.Len() != 4 || w.String() != "\xb0" {
		t.Errorf("%d %d %x", e, w.Len(), w.String())
	}
	if e := w.Put(1<<64-1, 0); e != api.OK || w.Len() != 4 {
		t.Error(e, w.Len())
	}
	w.Put(0xfff2, 4)
	if w.Len() != 8 || w.String() != "\xb2" {
		t.Errorf("%d %x", w.Len(), w.String())
	}
	w.Put(1<<63|3, 64)
	if w.Len() != 72 || w.String() != "\xb2\x80\x00\x00\x00\x00\x00\x00\x03" {
		t.Errorf("%d %x", w.Len(), w.String())
	}
}

// P6.1: wrong counts, and a nil writer.
func TestPutErrors(t *testing.T) {
	var w bits.Writer
	w.Put(1, 1)
	for _, count := range []int{-1, 65, -1 << 63, 1<<63 - 1} {
		if e := w.Put(1, count); e != api.ErrArg || w.Len() != 1 || w.String() != "\x80" {
			t.Error(count, e, w.Len())
		}
	}
	var none *bits.Writer
	if e := none.Put(1, -1); e != api.ErrNil {
		t.Error(e)
	}
	if none.Len() != 0 || none.String() != "" {
		t.Error(none.Len(), none.String())
	}
}

// P6.2: bits are read as numbers.
func TestTake(t *testing.T) {
	r := bits.New("\xb2\x80\x00\x00\x00\x00\x00\x00\x03")
	if n, e := r.Take(3); n != 5 || e != api.OK || r.At() != 3 {
		t.Error(n, e, r.At())
	}
	if n, e := r.Take(0); n != 0 || e != api.OK || r.At() != 3 {
		t.Error(n, e, r.At())
	}
	if n, e := r.Take(5); n != 0x12 || e != api.OK {
		t.Error(n, e)
	}
	if n, e := r.Take(64); n != 1<<63|3 || e != api.OK || r.At() != 72 {
		t.Error(n, e, r.At())
	}
	if n, e := r.Take(1); n != 0 || e != api.ErrEnd {
		t.Error(n, e)
	}
}

// P6.2: with an error nothing is read.
func TestTakeErrors(t *testing.T) {
	r := bits.New("\xff")
	r.Take(2)
	for _, count := range []int{-1, 65, -1 << 63, 1<<63 - 1} {
		if n, e := r.Take(count); n != 0 || e != api.ErrArg || r.At() != 2 {
			t.Error(count, n, e, r.At())
		}
	}
	for _, count := range []int{7, 8, 64} {
		if n, e := r.Take(count); n != 0 || e != api.ErrEnd || r.At() != 2 {
			t.Error(count, n, e, r.At())
		}
	}
	if n, e := r.Take(6); n != 63 || e != api.OK {
		t.Error(n, e)
	}
	var none *bits.Reader
	if n, e := none.Take(-1); n != 0 || e != api.ErrNil {
		t.Error(n, e)
	}
	if none.At() != 0 || none.Done() != api.ErrNil {
		t.Error(none.At(), none.Done())
	}
}

// P6.2: only the padding may be left, and of zeros.
func TestDone(t *testing.T) {
	for _, s := range []struct {
		text string
		read int
		want api.Errno
	}{
		{"", 0, api.OK},
		{"\x00", 0, api.ErrForm},
		{"\x00", 1, api.OK},
		{"\x80", 1, api.OK},
		{"\x81", 1, api.ErrForm},
		{"\xff", 8, api.OK},
		{"\xff", 7, api.ErrForm},
		{"\xc0", 1, api.ErrForm},
		{"\x80\x00", 1, api.ErrForm},
		{"\x80\x00", 8, api.ErrForm},
		{"\x80\x00", 9, api.OK},
	} {
		r := bits.New(s.text)
		r.Take(s.read)
		if e := r.Done(); e != s.want || r.At() != s.read {
			t.Errorf("%x from %d: %d at %d", s.text, s.read, e, r.At())
		}
		if e := r.Done(); e != s.want {
			t.Errorf("%x from %d: then %d", s.text, s.read, e)
		}
	}
}

// P6.3: what was put is read.
func TestPutIsRead(t *testing.T) {
	random := rand.New(rand.NewSource(6))
	for range 200 {
		var w bits.Writer
		var numbers []uint64
		var counts []int
		total := 0
		for range random.Intn(12) {
			n, count := random.Uint64(), random.Intn(65)
			w.Put(n, count)
			numbers = append(numbers, n<<(64-count)>>(64-count))
			counts = append(counts, count)
			total += count
		}
		if w.Len() != total || len(w.String()) != (total+7)/8 {
			t.Fatal(w.Len(), total, len(w.String()))
		}
		r := bits.New(w.String())
		for i, count := range counts {
			if n, e := r.Take(count); n != numbers[i] || e != api.OK {
				t.Fatal(n, e, numbers[i], count)
			}
		}
		if r.Done() != api.OK || r.At() != total {
			t.Fatal(r.Done(), r.At(), total)
		}
	}
}

package octet_test

import (
	"math/rand"
	"testing"

	"rondeau/api"
	"rondeau/octet"
)

// P1.1: each read moves on by what it read.
func TestReadsInOrder(t *testing.T) {
	r := octet.New("\x01\x02\x03\x04\x05\x06\x87z")
	if r.At() != 0 || r.Left() != 8 {
		t.Error("a new reader is at", r.At(), r.Left())
	}
	if b, e := r.Byte(); b != 1 || e != api.OK || r.At() != 1 || r.Left() != 7 {
		t.Error(b, e, r.At(), r.Left())
	}
	if s, e := r.Take(2); s != "\x02\x03" || e != api.OK || r.At() != 3 {
		t.Error(s, e, r.At())
	}
	if n, e := r.Four(); n != 4|5<<8|6<<16|0x87<<24 || e != api.OK || r.At() != 7 {
		t.Error(n, e, r.At())
	}
	if s, e := r.Take(1); s != "z" || e != api.OK || r.Left() != 0 {
		t.Error(s, e, r.Left())
	}
	if s, e := r.Take(0); s != "" || e != api.OK {
		t.Error(s, e)
	}
}

// P1.1: what can't be read is an error, and nothing is read.
func TestReadsPastTheEnd(t *testing.T) {
	r := octet.New("\x01\x02\x03")
	if s, e := r.Take(-1); s != "" || e != api.ErrArg || r.At() != 0 {
		t.Error(s, e, r.At())
	}
	if s, e := r.Take(4); s != "" || e != api.ErrEnd || r.At() != 0 {
		t.Error(s, e, r.At())
	}
	if s, e := r.Take(int(^uint(0) >> 1)); s != "" || e != api.ErrEnd || r.At() != 0 {
		t.Error(s, e, r.At())
	}
	if s, e := r.Take(2); s != "\x01\x02" || e != api.OK {
		t.Error(s, e)
	}
	if n, e := r.Four(); n != 0 || e != api.ErrEnd || r.At() != 2 {
		t.Error(n, e, r.At())
	}
	if b, e := r.Byte(); b != 3 || e != api.OK {
		t.Error(b, e)
	}
	if b, e := r.Byte(); b != 0 || e != api.ErrEnd || r.At() != 3 || r.Left() != 0 {
		t.Error(b, e, r.At(), r.Left())
	}
	if _, e := r.Take(-1); e != api.ErrArg {
		t.Error(e)
	}
}

// P1.1: a nil reader says so before anything else.
func TestNilReader(t *testing.T) {
	var r *octet.Reader
	if b, e := r.Byte(); b != 0 || e != api.ErrNil {
		t.Error(b, e)
	}
	for _, n := range []int{-1, 0, 1} {
		if s, e := r.Take(n); s != "" || e != api.ErrNil {
			t.Error(n, s, e)
		}
	}
	if n, e := r.Four(); n != 0 || e != api.ErrNil {
		t.Error(n, e)
	}
	if r.At() != 0 || r.Left() != 0 {
		t.Error(r.At(), r.Left())
	}
}

// P1.2: a writer gives all that was appended, in order.
func TestWrites(t *testing.T) {
	var w octet.Writer
	if w.String() != "" {
		t.Error("a new writer has bytes")
	}
	bytes := []byte{'b', 'c'}
	w.Put('a')
	w.Put()
	w.Put(bytes...)
	bytes[0] = 'x'
	w.Text("")
	w.Text("de\x00")
	w.Four(0x80030201)
	if s := w.String(); s != "abcde\x00\x01\x02\x03\x80" {
		t.Errorf("%q", s)
	}
	first := w.String()
	w.Put('!')
	if first+"!" != w.String() {
		t.Errorf("%q", w.String())
	}
}

// P1.2: a nil writer takes nothing.
func TestNilWriter(t *testing.T) {
	var w *octet.Writer
	w.Put(1, 2)
	w.Text("a")
	w.Four(3)
	if w.String() != "" {
		t.Errorf("%q", w.String())
	}
}

// P1.3: however the calls divide the bytes, they are read as written.
func TestWrittenIsRead(t *testing.T) {
	random := rand.New(rand.NewSource(1))
	for range 200 {
		var w octet.Writer
		var wanted []byte
		for range random.Intn(20) {
			part := make([]byte, random.Intn(6))
			random.Read(part)
			if random.Intn(2) == 0 {
				w.Put(part...)
			} else {
				w.Text(string(part))
			}
			wanted = append(wanted, part...)
			n := random.Uint32()
			w.Four(n)
			wanted = append(wanted, byte(n), byte(n>>8), byte(n>>16), byte(n>>24))
		}
		r := octet.New(w.String())
		var got []byte
		for r.Left() > 0 {
			if random.Intn(2) == 0 {
				b, _ := r.Byte()
				got = append(got, b)
				continue
			}
			s, _ := r.Take(min(random.Intn(5), r.Left()))
			got = append(got, s...)
		}
		if string(got) != string(wanted) {
			t.Fatalf("%q, wanted %q", got, wanted)
		}
	}
}

// P1.3: a number is read as it was written.
func TestFourIsRead(t *testing.T) {
	for _, n := range []uint32{0, 1, 255, 256, 1 << 16, 1 << 24, 0x01020304, 1<<32 - 1} {
		var w octet.Writer
		w.Four(n)
		if got, e := octet.New(w.String()).Four(); got != n || e != api.OK {
			t.Error(n, got, e)
		}
	}
}

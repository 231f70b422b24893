package delta_test

import (
	"math"
	"math/rand"
	"slices"
	"testing"

	"rondeau/api"
	"rondeau/delta"
	"rondeau/octet"
	"rondeau/varint"
)

// P3.1: zigzag codes, up to both ends of the signed numbers.
func TestZigzag(t *testing.T) {
	for _, s := range []struct {
		number int64
		code   uint64
	}{
		{0, 0}, {-1, 1}, {1, 2}, {-2, 3}, {2, 4},
		{math.MaxInt64, 1<<64 - 2}, {math.MinInt64, 1<<64 - 1},
		{math.MinInt64 + 1, 1<<64 - 3}, {1 << 40, 1 << 41}, {-1 << 40, 1<<41 - 1},
	} {
		if got := delta.Zig(s.number); got != s.code {
			t.Error("Zig", s.number, got, s.code)
		}
		if got := delta.Zag(s.code); got != s.number {
			t.Error("Zag", s.code, got, s.number)
		}
	}
}

// P3.1: deltas and sums, with differences that wrap round.
func TestDeltas(t *testing.T) {
	for _, s := range []struct{ list, deltas []uint64 }{
		{nil, nil},
		{[]uint64{5, 7, 6}, []uint64{10, 4, 1}},
		{[]uint64{0, 0}, []uint64{0, 0}},
		{[]uint64{1<<64 - 1, 0, 1<<64 - 1}, []uint64{1, 2, 1}},
		{[]uint64{1 << 63, 0}, []uint64{1<<64 - 1, 1<<64 - 1}},
		{[]uint64{1<<63 - 1}, []uint64{1<<64 - 2}},
	} {
		given := slices.Clone(s.list)
		if got := delta.Deltas(s.list); !slices.Equal(got, s.deltas) {
			t.Error(s.list, got)
		}
		if got := delta.Sums(s.deltas); !slices.Equal(got, s.list) {
			t.Error(s.deltas, got)
		}
		if !slices.Equal(given, s.list) {
			t.Error("the argument was changed", given, s.list)
		}
	}
}

// P3.2: the encoding is layer 2's list of the deltas.
func TestEncoding(t *testing.T) {
	if got := delta.Print([]uint64{5, 7, 6}); got != "\x03\x0a\x04\x01" {
		t.Errorf("%x", got)
	}
	if got := delta.Print(nil); got != "\x00" {
		t.Errorf("%x", got)
	}
	random := rand.New(rand.NewSource(3))
	for range 300 {
		l := make([]uint64, random.Intn(9))
		for i := range l {
			l[i] = random.Uint64() >> random.Intn(64)
		}
		r := octet.New(delta.Print(l) + "!")
		if got, e := delta.Read(r, len(l)); !slices.Equal(got, l) || e != api.OK || r.Left() != 1 {
			t.Fatal(l, got, e, r.Left())
		}
	}
}

// P3.2: the errors are those of layer 2's lists.
func TestErrors(t *testing.T) {
	for _, s := range []struct {
		text string
		most int
	}{{"", -1}, {"", 1}, {"\x02\x01", 2}, {"\x02\x01\x01", 1}, {"\x80\x00", 1}, {"\x02\x01\x80\x00", 2}} {
		_, want := varint.ReadList(octet.New(s.text), s.most)
		if l, e := delta.Read(octet.New(s.text), s.most); len(l) != 0 || e != want || e == api.OK {
			t.Error(s, l, e, want)
		}
	}
	if _, e := delta.Read(nil, 1); e != api.ErrNil {
		t.Error(e)
	}
}

package runs_test

import (
	"math/rand"
	"slices"
	"testing"

	"rondeau/api"
	"rondeau/octet"
	"rondeau/runs"
	"rondeau/varint"
)

const (
	top     = 1<<64 - 1
	largest = int(^uint(0) >> 1)
)

// P4.1: the runs of a list.
func TestPack(t *testing.T) {
	for _, s := range []struct {
		list []uint64
		runs []runs.Run
	}{
		{nil, nil},
		{[]uint64{0}, []runs.Run{{0, 1}}},
		{[]uint64{7, 7, 7, 0}, []runs.Run{{7, 3}, {0, 1}}},
		{[]uint64{0, 0, top, 0}, []runs.Run{{0, 2}, {top, 1}, {0, 1}}},
	} {
		if got := runs.Pack(s.list); !slices.Equal(got, s.runs) {
			t.Error(s.list, got)
		}
		if got, e := runs.Unpack(s.runs, len(s.list)); !slices.Equal(got, s.list) || e != api.OK {
			t.Error(s.runs, got, e)
		}
	}
}

// P4.1: runs that are none, or too long.
func TestUnpackErrors(t *testing.T) {
	for _, s := range []struct {
		runs []runs.Run
		most int
		want api.Errno
	}{
		{nil, -1, api.ErrArg},
		{[]runs.Run{{1, 0}}, -1, api.ErrArg},
		{[]runs.Run{{1, 0}}, 5, api.ErrForm},
		{[]runs.Run{{1, 1}, {1, 1}}, 5, api.ErrForm},
		{[]runs.Run{{1, 3}, {1, 9}}, 5, api.ErrForm},
		{[]runs.Run{{1, 1}, {2, 0}}, 0, api.ErrLong},
		{[]runs.Run{{1, 6}, {2, 0}}, 5, api.ErrLong},
		{[]runs.Run{{1, 3}, {2, 0}, {3, 9}}, 5, api.ErrForm},
		{[]runs.Run{{1, 3}, {2, 3}}, 5, api.ErrLong},
		{[]runs.Run{{1, 3}, {2, top}}, 5, api.ErrLong},
		{[]runs.Run{{1, 3}, {2, top - 2}}, largest, api.ErrLong},
		{[]runs.Run{{1, 1 << 60}, {1, 1}}, largest, api.ErrForm},
		{[]runs.Run{{1, 1}}, 0, api.ErrLong},
	} {
		if l, e := runs.Unpack(s.runs, s.most); len(l) != 0 || e != s.want {
			t.Error(s, e)
		}
	}
	if l, e := runs.Unpack(nil, 0); len(l) != 0 || e != api.OK {
		t.Error(l, e)
	}
}

// P4.2: the encoding of a list.
func TestPrint(t *testing.T) {
	if got := runs.Print([]uint64{7, 7, 7, 0}); got != "\x02\x07\x02\x00\x00" {
		t.Errorf("%x", got)
	}
	if got := runs.Print(nil); got != "\x00" {
		t.Errorf("%x", got)
	}
	r := octet.New("\x02\x07\x02\x00\x00\x09")
	if l, e := runs.Read(r, 4); !slices.Equal(l, []uint64{7, 7, 7, 0}) || e != api.OK || r.Left() != 1 {
		t.Error(l, e, r.Left())
	}
}

// P4.2: errors, and where they leave the reader.
func TestReadErrors(t *testing.T) {
	all := varint.Print(top)
	for _, s := range []struct {
		text string
		most int
		want api.Errno
		at   int
	}{
		{"\x01", -1, api.ErrArg, 0},
		{"", 5, api.ErrEnd, 0},
		{"\x80\x00", 5, api.ErrForm, 2},
		{all, 5, api.ErrEnd, 10},
		{"\x01", 5, api.ErrEnd, 1},
		{"\x01\x80\x00\x00", 5, api.ErrForm, 3},
		{"\x01\x07", 5, api.ErrEnd, 2},
		{"\x01\x07\x80\x00\x01", 5, api.ErrForm, 4},
		{"\x01\x07\x05\x01", 5, api.ErrLong, 3},
		{"\x01\x07\x00", 0, api.ErrLong, 3},
		{"\x03\x07\x00\x07\x00\x01", 5, api.ErrForm, 5},
		{"\x03\x07\x00\x07\x09\x01", 5, api.ErrForm, 5},
		{"\x03\x07\x02\x08\x02\x08", 5, api.ErrLong, 5},
		{"\x01\x07" + all, largest, api.ErrLong, 12},
		{"\x02\x07\x00\x07" + all, largest, api.ErrForm, 14},
		{"\x02\x07\x00\x08" + all, largest, api.ErrLong, 14},
		{"\x02\x07\x00\x08" + varint.Print(top-1), largest, api.ErrLong, 14},
	} {
		r := octet.New(s.text)
		if l, e := runs.Read(r, s.most); len(l) != 0 || e != s.want || r.At() != s.at {
			t.Errorf("%x, at most %d: %v %d at %d", s.text, s.most, l, e, r.At())
		}
	}
	if _, e := runs.Read(nil, -1); e != api.ErrArg {
		t.Error(e)
	}
	if _, e := runs.Read(nil, 1); e != api.ErrNil {
		t.Error(e)
	}
}

// P4.1, P4.2: lists come back, and their runs are the shortest division.
func TestListsComeBack(t *testing.T) {
	random := rand.New(rand.NewSource(4))
	for range 500 {
		l := make([]uint64, random.Intn(12))
		for i := range l {
			l[i] = []uint64{0, 1, top}[random.Intn(3)]
		}
		packed := runs.Pack(l)
		for i, run := range packed {
			if run.Count == 0 || i > 0 && packed[i-1].Value == run.Value {
				t.Fatal(l, packed)
			}
		}
		if got, e := runs.Unpack(packed, len(l)); !slices.Equal(got, l) || e != api.OK {
			t.Fatal(l, got, e)
		}
		r := octet.New(runs.Print(l))
		if got, e := runs.Read(r, len(l)); !slices.Equal(got, l) || e != api.OK || r.Left() != 0 {
			t.Fatal(l, got, e)
		}
	}
}

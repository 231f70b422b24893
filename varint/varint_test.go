package varint_test

import (
	"math/rand"
	"strings"
	"testing"

	"rondeau/api"
	"rondeau/octet"
	"rondeau/varint"
)

const top = 1<<64 - 1

var samples = []struct {
	number uint64
	text   string
}{
	{0, "\x00"},
	{1, "\x01"},
	{127, "\x7f"},
	{128, "\x80\x01"},
	{300, "\xac\x02"},
	{1<<14 - 1, "\xff\x7f"},
	{1 << 14, "\x80\x80\x01"},
	{1<<63 - 1, "\xff\xff\xff\xff\xff\xff\xff\xff\x7f"},
	{1 << 63, "\x80\x80\x80\x80\x80\x80\x80\x80\x80\x01"},
	{top, "\xff\xff\xff\xff\xff\xff\xff\xff\xff\x01"},
}

// P2.1: numbers are printed, measured and read.
func TestNumbers(t *testing.T) {
	for _, s := range samples {
		if got := varint.Print(s.number); got != s.text {
			t.Errorf("%d: %x, wanted %x", s.number, got, s.text)
		}
		if got := varint.Size(s.number); got != len(s.text) {
			t.Errorf("%d: size %d, wanted %d", s.number, got, len(s.text))
		}
		r := octet.New(s.text + "\x05")
		if n, e := varint.Read(r); n != s.number || e != api.OK || r.Left() != 1 {
			t.Errorf("%x: %d %d, %d left", s.text, n, e, r.Left())
		}
	}
}

// P2.1: what is no encoding is an error, and the reader stands after what was examined.
func TestWrongNumbers(t *testing.T) {
	nine := strings.Repeat("\x80", 9)
	for _, s := range []struct {
		text string
		want api.Errno
		at   int
	}{
		{"", api.ErrEnd, 0},
		{"\x80", api.ErrEnd, 1},
		{"\xff\xff\xff", api.ErrEnd, 3},
		{nine, api.ErrEnd, 9},
		{"\x80\x00", api.ErrForm, 2},
		{"\x80\x00\x01", api.ErrForm, 2},
		{"\x80\x80\x00\x01", api.ErrForm, 3},
		{nine + "\x00", api.ErrForm, 10},
		{nine + "\x02\x00", api.ErrForm, 10},
		{nine + "\x80\x01", api.ErrForm, 10},
		{nine + "\x81", api.ErrForm, 10},
		{nine + "\xff\x01", api.ErrForm, 10},
	} {
		r := octet.New(s.text)
		if n, e := varint.Read(r); n != 0 || e != s.want || r.At() != s.at {
			t.Errorf("%x: %d %d at %d", s.text, n, e, r.At())
		}
	}
	if n, e := varint.Read(nil); n != 0 || e != api.ErrNil {
		t.Error(n, e)
	}
}

// P2.2: lists are their length and their numbers.
func TestLists(t *testing.T) {
	if got := varint.PrintList([]uint64{300, 0}); got != "\x02\xac\x02\x00" {
		t.Errorf("%x", got)
	}
	if got := varint.PrintList(nil); got != "\x00" {
		t.Errorf("%x", got)
	}
	r := octet.New("\x02\xac\x02\x00\x07")
	if l, e := varint.ReadList(r, 2); len(l) != 2 || l[0] != 300 || l[1] != 0 || e != api.OK || r.Left() != 1 {
		t.Error(l, e, r.Left())
	}
	if l, e := varint.ReadList(octet.New("\x00"), 0); len(l) != 0 || e != api.OK {
		t.Error(l, e)
	}
}

// P2.2: the first error of a list is told.
func TestWrongLists(t *testing.T) {
	for _, s := range []struct {
		text string
		most int
		want api.Errno
	}{
		{"", -1, api.ErrArg},
		{"\x01\x02", -1, api.ErrArg},
		{"", 3, api.ErrEnd},
		{"\x80\x00", 3, api.ErrForm},
		{"\x04", 3, api.ErrLong},
		{"\x01\x00", 0, api.ErrLong},
		{varint.Print(top), int(^uint(0) >> 1), api.ErrLong},
		{varint.Print(1 << 62), int(^uint(0) >> 1), api.ErrEnd},
		{"\x02\x01", 3, api.ErrEnd},
		{"\x03\x01\x80\x00\x80", 3, api.ErrForm},
		{"\x03\x01\x80", 3, api.ErrEnd},
	} {
		if l, e := varint.ReadList(octet.New(s.text), s.most); len(l) != 0 || e != s.want {
			t.Errorf("%x, at most %d: %v %d, wanted %d", s.text, s.most, l, e, s.want)
		}
	}
	if _, e := varint.ReadList(nil, -1); e != api.ErrArg {
		t.Error(e)
	}
	if _, e := varint.ReadList(nil, 1); e != api.ErrNil {
		t.Error(e)
	}
}

func someNumber(random *rand.Rand) uint64 { return random.Uint64() >> random.Intn(64) }

// P2.3: what was encoded is read, and no encoding begins another one.
func TestReadsWhatWasPrinted(t *testing.T) {
	random := rand.New(rand.NewSource(2))
	for range 300 {
		l := make([]uint64, random.Intn(9))
		for i := range l {
			l[i] = someNumber(random)
		}
		r := octet.New(varint.PrintList(l) + "\x80")
		got, e := varint.ReadList(r, len(l))
		if e != api.OK || len(got) != len(l) || r.Left() != 1 {
			t.Fatal(l, got, e)
		}
		for i := range l {
			if got[i] != l[i] {
				t.Fatal(l, got)
			}
		}
		a, b := someNumber(random), someNumber(random)
		if a != b && strings.HasPrefix(varint.Print(a), varint.Print(b)) {
			t.Fatal(a, b)
		}
	}
}

// P2.3: any short byte string is read as a number whose encoding it begins with, or not at all.
func TestOnlyShortestForms(t *testing.T) {
	random := rand.New(rand.NewSource(3))
	for range 5000 {
		text := make([]byte, random.Intn(12))
		for i := range text {
			text[i] = []byte{0, 1, 2, 127, 128, 129, 255}[random.Intn(7)]
		}
		r := octet.New(string(text))
		n, e := varint.Read(r)
		if e == api.OK && varint.Print(n) != string(text[:r.At()]) {
			t.Fatalf("%x: %d", text, n)
		}
		if e != api.OK && n != 0 {
			t.Fatalf("%x: %d beside an error", text, n)
		}
	}
}

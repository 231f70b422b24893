package huff_test

import (
	"math/rand"
	"strings"
	"testing"

	"rondeau/api"
	"rondeau/huff"
	"rondeau/runs"
	"rondeau/varint"
)

const top = 1<<64 - 1

// P7.1: how often each byte is there.
func TestCount(t *testing.T) {
	c := huff.Count("abca\x00\xff\xff")
	want := [256]uint64{0: 1, 'a': 2, 'b': 1, 'c': 1, 255: 2}
	if c != want || huff.Count("") != [256]uint64{} {
		t.Error(c)
	}
}

// P7.1: code lengths, with the order of trees of equal weights.
func TestLengths(t *testing.T) {
	for _, s := range []struct {
		weights map[byte]uint64
		lengths map[byte]uint8
	}{
		{nil, nil},
		{map[byte]uint64{9: 5}, map[byte]uint8{9: 1}},
		{map[byte]uint64{9: top}, map[byte]uint8{9: 1}},
		{map[byte]uint64{9: 5, 200: 1}, map[byte]uint8{9: 1, 200: 1}},
		{map[byte]uint64{'a': 2, 'b': 1, 'c': 1}, map[byte]uint8{'a': 1, 'b': 2, 'c': 2}},
		// b and c make a tree of weight 2, whose number is greater than those of a and d.
		{map[byte]uint64{'a': 2, 'b': 1, 'c': 1, 'd': 2}, map[byte]uint8{'a': 2, 'b': 2, 'c': 2, 'd': 2}},
		{map[byte]uint64{'a': 1, 'b': 1, 'c': 2, 'd': 3}, map[byte]uint8{'a': 3, 'b': 3, 'c': 2, 'd': 1}},
		{map[byte]uint64{'a': 1, 'b': 1, 'c': 1}, map[byte]uint8{'a': 2, 'b': 2, 'c': 1}},
		// Sums stop at 2^64 - 1, where the numbers decide.
		{map[byte]uint64{1: top, 2: top, 3: top, 4: top}, map[byte]uint8{1: 2, 2: 2, 3: 2, 4: 2}},
		{map[byte]uint64{1: top - 1, 2: top - 1, 3: top, 4: top}, map[byte]uint8{1: 2, 2: 2, 3: 2, 4: 2}},
		{map[byte]uint64{1: 1 << 63, 2: 1 << 63, 3: 1<<63 + 1}, map[byte]uint8{1: 2, 2: 2, 3: 1}},
	} {
		var w [256]uint64
		var l [256]uint8
		for b, n := range s.weights {
			w[b] = n
		}
		for b, n := range s.lengths {
			l[b] = n
		}
		if got := huff.Lengths(w); got != l {
			t.Error(s.weights, got)
		}
	}
}

// P7.1: lengths go up to 255.
func TestLongLengths(t *testing.T) {
	var w [256]uint64
	w[0], w[1] = 1, 1
	for i := 2; i < 256; i++ {
		w[i] = top
		if i < 64 {
			w[i] = 1 << (i - 1)
		}
	}
	l := huff.Lengths(w)
	// Up to 63 each byte is as heavy as all before it; from there on all are equal.
	if l[0] != l[1] || l[1] != l[2]+1 || l[2] != l[3]+1 || l[0] < 60 {
		t.Error(l)
	}
	if _, e := huff.Codes(l); e != api.ErrArg {
		t.Error(e)
	}
}

// P7.2: codes are handed out by length, then by byte.
func TestCodes(t *testing.T) {
	codes, e := huff.Codes([256]uint8{'a': 1, 'b': 2, 'c': 2})
	if e != api.OK || codes != [256]uint64{'a': 0, 'b': 2, 'c': 3} {
		t.Error(e, codes['a'], codes['b'], codes['c'])
	}
	codes, e = huff.Codes([256]uint8{'a': 3, 'b': 1, 'c': 3, 'd': 2})
	if e != api.OK || codes != [256]uint64{'a': 6, 'b': 0, 'c': 7, 'd': 2} {
		t.Error(e, codes['a'], codes['b'], codes['c'], codes['d'])
	}
	if codes, e = huff.Codes([256]uint8{}); e != api.OK || codes != [256]uint64{} {
		t.Error(e)
	}
	if codes, e = huff.Codes([256]uint8{7: 1}); e != api.OK || codes != [256]uint64{} {
		t.Error(e)
	}
	var deep [256]uint8
	for i := range 56 {
		deep[i] = uint8(i + 1)
	}
	deep[56] = 56
	if codes, e = huff.Codes(deep); e != api.OK || codes[56] != 1<<56-1 || codes[55] != 1<<56-2 || codes[1] != 2 {
		t.Error(e, codes[56], codes[55], codes[1])
	}
}

// P7.2: lengths that are too great, or not complete.
func TestCodesErrors(t *testing.T) {
	for _, s := range []struct {
		lengths [256]uint8
		want    api.Errno
	}{
		{[256]uint8{3: 57}, api.ErrArg},
		{[256]uint8{3: 1, 4: 1, 5: 255}, api.ErrArg},
		{[256]uint8{3: 2}, api.ErrForm},
		{[256]uint8{3: 56}, api.ErrForm},
		{[256]uint8{3: 1, 4: 2}, api.ErrForm},
		{[256]uint8{3: 1, 4: 1, 5: 1}, api.ErrForm},
		{[256]uint8{3: 1, 4: 1, 5: 56}, api.ErrForm},
	} {
		if codes, e := huff.Codes(s.lengths); e != s.want || codes != [256]uint64{} {
			t.Error(s, e)
		}
	}
	var all [256]uint8
	for i := range all {
		all[i] = 1
	}
	if _, e := huff.Codes(all); e != api.ErrForm {
		t.Error(e)
	}
}

// P7.3: compressed forms.
func TestPack(t *testing.T) {
	if got := huff.Pack(""); got != "\x00\x01\x00\xff\x01" {
		t.Errorf("%x", got)
	}
	// a 1, b 2, c 2 bits: 0 10 0 11, in one byte.
	lengths := make([]uint64, 256)
	lengths['a'], lengths['b'], lengths['c'] = 1, 2, 2
	if got, want := huff.Pack("abac"), "\x04"+runs.Print(lengths)+"\x4c"; got != want {
		t.Errorf("%x, wanted %x", got, want)
	}
	lengths = make([]uint64, 256)
	lengths['z'] = 1
	if got, want := huff.Pack("zzz"), "\x03"+runs.Print(lengths)+"\x00"; got != want {
		t.Errorf("%x, wanted %x", got, want)
	}
}

// P7.3: strings come back.
func TestStringsComeBack(t *testing.T) {
	random := rand.New(rand.NewSource(7))
	for range 300 {
		b := make([]byte, random.Intn(300))
		kinds := 1 + random.Intn(256)
		for i := range b {
			b[i] = byte(random.Intn(1+random.Intn(kinds)) * 7)
		}
		s := string(b)
		if got, e := huff.Unpack(huff.Pack(s), len(s)); got != s || e != api.OK {
			t.Fatalf("%x: %x %d", s, got, e)
		}
	}
	long := strings.Repeat("the same again, and the same once more; ", 5000)
	if got, e := huff.Unpack(huff.Pack(long), api.MaxBytes); got != long || e != api.OK {
		t.Error(e)
	}
}

// P7.3: what is not what Pack returns.
func TestUnpackErrors(t *testing.T) {
	packed := huff.Pack("abac")
	swapped := make([]uint64, 256)
	swapped['a'], swapped['b'], swapped['c'] = 2, 1, 2
	spare := make([]uint64, 256)
	spare['a'], spare['b'] = 1, 1
	single := make([]uint64, 256)
	single['z'] = 1
	for _, s := range []struct {
		text string
		most int
		want api.Errno
	}{
		{packed, -1, api.ErrArg},
		{"", -1, api.ErrArg},
		{packed, 3, api.ErrLong},
		{"\x05", 4, api.ErrLong},
		{varint.Print(top), 1<<63 - 1, api.ErrLong},
		{varint.Print(1<<62) + packed[1:], 1<<63 - 1, api.ErrForm},
		{"", 4, api.ErrForm},
		{"\x80\x00", 4, api.ErrForm},
		{"\x80", 0, api.ErrForm},
		{"\x04", 4, api.ErrForm},
		{packed[:len(packed)-1], 4, api.ErrForm},
		{packed + "\x00", 4, api.ErrForm},
		{packed[:len(packed)-1] + "\x4d", 4, api.ErrForm}, // padding
		{"\x03" + packed[1:], 4, api.ErrForm},
		{"\x07" + packed[1:], 7, api.ErrForm},
		{"\x04" + runs.Print(swapped) + "\xb8", 4, api.ErrForm},
		{"\x01" + runs.Print(spare) + "\x00", 4, api.ErrForm},
		{"\x00" + runs.Print(single), 4, api.ErrForm},
		{"\x01" + runs.Print(single) + "\x80", 4, api.ErrForm},
		{"\x01" + runs.Print(single[1:]) + "\x00", 4, api.ErrForm},
		{"\x01" + runs.Print(append(single, 0)) + "\x00", 4, api.ErrForm},
		{"\x01" + runs.Print(make([]uint64, 256)) + "\x00", 4, api.ErrForm},
		{"\x01\x01\x80\x02\xff\x01\x00", 4, api.ErrForm}, // all lengths 256
	} {
		if got, e := huff.Unpack(s.text, s.most); got != "" || e != s.want {
			t.Errorf("%x, at most %d: %q %d, wanted %d", s.text, s.most, got, e, s.want)
		}
	}
	if got, e := huff.Unpack(packed, 4); got != "abac" || e != api.OK {
		t.Error(got, e)
	}
	if got, e := huff.Unpack(huff.Pack(""), 0); got != "" || e != api.OK {
		t.Error(got, e)
	}
}

// P7.3: a byte string is what Pack returns, or it is refused.
func TestChangedFormsAreRefused(t *testing.T) {
	random := rand.New(rand.NewSource(8))
	for range 2000 {
		b := []byte(huff.Pack("hello, halloo"))
		b[random.Intn(len(b))] = byte(random.Intn(256))
		s, e := huff.Unpack(string(b), 64)
		if e == api.OK && huff.Pack(s) != string(b) {
			t.Fatalf("%x", b)
		}
	}
}

// P7.4: no code begins another one, and the total number of bits is the least:
// the sum of all merges, as found with the two least weights searched each time.
func TestBestCodes(t *testing.T) {
	random := rand.New(rand.NewSource(9))
	for range 200 {
		var w [256]uint64
		var rest []uint64
		for range 2 + random.Intn(40) {
			w[random.Intn(256)] = uint64(1 + random.Intn(1<<random.Intn(16)))
		}
		for _, n := range w {
			if n > 0 {
				rest = append(rest, n)
			}
		}
		if len(rest) < 2 {
			continue
		}
		l := huff.Lengths(w)
		codes, e := huff.Codes(l)
		if e != api.OK {
			t.Fatal(e)
		}
		var total, least uint64
		for a := range codes {
			total += w[a] * uint64(l[a])
			for b := range codes {
				if a != b && l[a] > 0 && l[a] <= l[b] && codes[b]>>(l[b]-l[a]) == codes[a] {
					t.Fatal("the code of", a, "begins that of", b)
				}
			}
		}
		for len(rest) > 1 {
			for i := range 2 {
				for j := i + 1; j < len(rest); j++ {
					if rest[j] < rest[i] {
						rest[i], rest[j] = rest[j], rest[i]
					}
				}
			}
			rest[1] += rest[0]
			least += rest[1]
			rest = rest[1:]
		}
		if total != least {
			t.Fatal(total, least)
		}
	}
}

package crc_test

import (
	"hash/crc32"
	"math/rand"
	"testing"

	"rondeau/crc"
)

func bytes(random *rand.Rand, n int) []byte {
	b := make([]byte, n)
	random.Read(b)
	return b
}

// P5.1: the table is that of the IEEE polynomial.
func TestTable(t *testing.T) {
	table := crc.Table()
	if table != [256]uint32(*crc32.IEEETable) {
		t.Error("another table")
	}
	if table[0] != 0 || table[1] != 0x77073096 || table[128] != 0xedb88320 {
		t.Error(table[0], table[1], table[128])
	}
}

// P5.1: the checksums of strings that are known.
func TestSum(t *testing.T) {
	table := crc.Table()
	if got := crc.Sum(table, "123456789"); got != 0xcbf43926 {
		t.Errorf("%x", got)
	}
	if got := crc.Sum(table, ""); got != 0 {
		t.Errorf("%x", got)
	}
	random := rand.New(rand.NewSource(5))
	for range 100 {
		b := bytes(random, random.Intn(60))
		if got, want := crc.Sum(table, string(b)), crc32.ChecksumIEEE(b); got != want {
			t.Errorf("%x: %x, wanted %x", b, got, want)
		}
	}
}

// P5.1: any table will do, and a sum can be taken up again.
func TestMore(t *testing.T) {
	random := rand.New(rand.NewSource(6))
	for range 50 {
		var table [256]uint32
		for i := range table {
			table[i] = random.Uint32()
		}
		b := string(bytes(random, random.Intn(30)))
		cut := random.Intn(len(b) + 1)
		want := ^uint32(0)
		for _, c := range []byte(b) {
			want = want>>8 ^ table[c^byte(want&255)]
		}
		if got := crc.Sum(table, b); got != ^want {
			t.Fatalf("%x, wanted %x", got, ^want)
		}
		if got := crc.More(table, crc.Sum(table, b[:cut]), b[cut:]); got != ^want {
			t.Fatalf("%x, wanted %x", got, ^want)
		}
	}
	if got := crc.Sum([256]uint32{}, "a"); got != 0xff000000 {
		t.Errorf("%x", got)
	}
}

// P5.2: a change within 32 consecutive bits is found.
func TestFindsBursts(t *testing.T) {
	table := crc.Table()
	random := rand.New(rand.NewSource(7))
	for range 2000 {
		b := bytes(random, 5+random.Intn(20))
		c := append([]byte(nil), b...)
		first := random.Intn(len(b)*8 - 31)
		pattern := random.Uint32() >> random.Intn(32)
		if pattern == 0 {
			continue
		}
		for i := range 32 {
			if pattern>>i&1 == 1 {
				c[(first+i)/8] ^= 1 << ((first + i) % 8)
			}
		}
		if crc.Sum(table, string(b)) == crc.Sum(table, string(c)) {
			t.Fatalf("%x and %x", b, c)
		}
	}
}

// P5.2: the checksums of three strings and of their exclusive-or cancel out.
func TestExclusiveOr(t *testing.T) {
	table := crc.Table()
	random := rand.New(rand.NewSource(8))
	for range 200 {
		n := random.Intn(20)
		a, b, c := bytes(random, n), bytes(random, n), bytes(random, n)
		x := make([]byte, n)
		for i := range x {
			x[i] = a[i] ^ b[i] ^ c[i]
		}
		if crc.Sum(table, string(a))^crc.Sum(table, string(b))^crc.Sum(table, string(c))^crc.Sum(table, string(x)) != 0 {
			t.Fatalf("%x %x %x", a, b, c)
		}
	}
}

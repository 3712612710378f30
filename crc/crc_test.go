package crc

import (
	"bytes"
	"encoding/binary"
	"hash/crc32"
	"math"
	"math/rand"
	"testing"
)

// sumBitByBit: the standard's division, with no table and with nothing of this package.
func sumBitByBit(b []byte) uint32 {
	rest := uint32(math.MaxUint32)
	for _, c := range b {
		for bit := range 8 {
			odd := (rest^uint32(c>>bit))&1 == 1
			rest /= 2
			if odd {
				rest ^= 0xedb88320
			}
		}
	}
	return ^rest
}

func someBytes(seed int64, size int) []byte {
	b := make([]byte, size)
	rand.New(rand.NewSource(seed)).Read(b)
	return b
}

// texts: of many lengths, all 0, all 255, and mixed.
func texts() [][]byte {
	out := [][]byte{nil, {}, []byte("123456789"), []byte("reprise")}
	for _, size := range []int{1, 2, 3, 4, 5, 7, 8, 9, 31, 32, 33, 255, 256, 257, 1000, 70000} {
		out = append(out, make([]byte, size), bytes.Repeat([]byte{255}, size), someBytes(int64(size), size))
	}
	return out
}

func edgeSums() []uint32 {
	out := []uint32{0, 1, 255, 256, 65535, 65536, 1<<24 - 1, 1 << 24, 1<<31 - 1, 1 << 31, math.MaxUint32 - 1, math.MaxUint32, 0xcbf43926}
	r := rand.New(rand.NewSource(3))
	for range 500 {
		out = append(out, r.Uint32())
	}
	return out
}

// P2.1

func TestSumKnown(t *testing.T) {
	cases := []struct {
		b    string
		want uint32
	}{
		{"", 0},
		{"123456789", 0xcbf43926},
		{"\x00", 0xd202ef8d},
		{"\xff", 0xff000000},
		{"a", 0xe8b7be43},
		{"\x00\x00\x00\x00", 0x2144df1c},
		{"\xff\xff\xff\xff", 0xffffffff},
		{"The quick brown fox jumps over the lazy dog", 0x414fa339},
	}
	for _, c := range cases {
		if got := Sum([]byte(c.b)); got != c.want {
			t.Errorf("Sum(%q): %08x; want %08x", c.b, got, c.want)
		}
	}
	if got := Sum(nil); got != 0 {
		t.Errorf("Sum(nil): %08x", got)
	}
}

func TestSumIsTheStandards(t *testing.T) {
	for _, b := range texts() {
		got := Sum(b)
		if want := sumBitByBit(b); got != want {
			t.Errorf("Sum of %d bytes: %08x; bit by bit %08x", len(b), got, want)
		}
		if want := crc32.ChecksumIEEE(b); got != want {
			t.Errorf("Sum of %d bytes: %08x; the library's %08x", len(b), got, want)
		}
	}
}

func TestSumOfEachByte(t *testing.T) {
	seen := map[uint32]int{}
	for i := range 256 {
		b := []byte{byte(i)}
		got := Sum(b)
		if want := sumBitByBit(b); got != want {
			t.Errorf("Sum(%x): %08x; want %08x", b, got, want)
		}
		seen[got]++
	}
	if len(seen) != 256 {
		t.Errorf("256 bytes have %d sums", len(seen))
	}
}

func TestMorePartedAtEachPlace(t *testing.T) {
	for _, b := range texts() {
		if len(b) > 300 {
			continue
		}
		whole := sumBitByBit(b)
		for k := range len(b) + 1 {
			if got := More(Sum(b[:k]), b[k:]); got != whole {
				t.Errorf("More of %d bytes parted at %d: %08x; want %08x", len(b), k, got, whole)
			}
		}
	}
}

func TestMoreInManyParts(t *testing.T) {
	r := rand.New(rand.NewSource(4))
	for _, b := range texts() {
		c := uint32(0)
		for rest := b; len(rest) > 0; {
			k := r.Intn(min(len(rest), 999) + 1)
			c = More(c, rest[:k])
			rest = rest[k:]
		}
		if want := sumBitByBit(b); c != want {
			t.Errorf("%d bytes in parts: %08x; want %08x", len(b), c, want)
		}
	}
}

func TestMoreOfAnySum(t *testing.T) {
	b := someBytes(5, 300)
	for _, c := range edgeSums() {
		if got := More(c, nil); got != c {
			t.Errorf("More(%08x, nil): %08x", c, got)
		}
		if got := More(c, []byte{}); got != c {
			t.Errorf("More(%08x, no bytes): %08x", c, got)
		}
		for _, size := range []int{1, 2, 9, 300} {
			if got, want := More(c, b[:size]), crc32.Update(c, crc32.IEEETable, b[:size]); got != want {
				t.Errorf("More(%08x, %d bytes): %08x; want %08x", c, size, got, want)
			}
		}
	}
}

func TestTableKnown(t *testing.T) {
	table := Table()
	for i, want := range map[int]uint32{0: 0, 1: 0x77073096, 2: 0xee0e612c, 3: 0x990951ba, 128: 0xedb88320, 255: 0x2d02ef8d} {
		if table[i] != want {
			t.Errorf("Table()[%d]: %08x; want %08x", i, table[i], want)
		}
	}
}

func TestTableRowByRow(t *testing.T) {
	table := Table()
	for i := range table {
		n := uint32(i)
		for range 8 {
			half := n / 2
			if n%2 == 1 {
				half ^= 0xedb88320
			}
			n = half
		}
		if table[i] != n {
			t.Errorf("Table()[%d]: %08x; want %08x", i, table[i], n)
		}
	}
	if table != *crc32.IEEETable {
		t.Error("Table() isn't the library's")
	}
}

func TestFour(t *testing.T) {
	cases := []struct {
		c    uint32
		want string
	}{
		{0, "\x00\x00\x00\x00"},
		{1, "\x01\x00\x00\x00"},
		{256, "\x00\x01\x00\x00"},
		{65536, "\x00\x00\x01\x00"},
		{1 << 24, "\x00\x00\x00\x01"},
		{1 << 31, "\x00\x00\x00\x80"},
		{0xcbf43926, "\x26\x39\xf4\xcb"},
		{math.MaxUint32 - 1, "\xfe\xff\xff\xff"},
		{math.MaxUint32, "\xff\xff\xff\xff"},
	}
	for _, c := range cases {
		if got := Four(c.c); string(got) != c.want {
			t.Errorf("Four(%08x): %x; want %x", c.c, got, c.want)
		}
	}
	for _, c := range edgeSums() {
		if got, want := Four(c), binary.LittleEndian.AppendUint32(nil, c); !bytes.Equal(got, want) {
			t.Errorf("Four(%08x): %x; want %x", c, got, want)
		}
	}
}

func TestNothingIsShared(t *testing.T) {
	room := []byte("123456789spare room")
	before := bytes.Clone(room)
	Sum(room[:9])
	More(7, room[:9])
	if !bytes.Equal(room, before) {
		t.Errorf("what was handed in is now %q", room)
	}

	table := Table()
	clear(table[:])
	four := Four(0xcbf43926)
	clear(four)
	if Table() != *crc32.IEEETable || Sum(room[:9]) != 0xcbf43926 || !bytes.Equal(Four(0xcbf43926), []byte{0x26, 0x39, 0xf4, 0xcb}) {
		t.Error("an answer that is written over changes later ones")
	}
}

// P2.2

func TestOneOtherByteShows(t *testing.T) {
	for _, b := range texts() {
		if len(b) > 300 {
			continue
		}
		whole := Sum(b)
		turned := bytes.Clone(b)
		for i := range turned {
			for other := 1; other < 256; other++ {
				turned[i] = b[i] ^ byte(other)
				if Sum(turned) == whole {
					t.Fatalf("%d bytes: byte %d as %x doesn't show", len(b), i, turned[i])
				}
			}
			turned[i] = b[i]
		}
	}
}

func TestFourOtherNeighboursShow(t *testing.T) {
	r := rand.New(rand.NewSource(6))
	for _, b := range texts() {
		if len(b) < 4 || len(b) > 1000 {
			continue
		}
		whole := Sum(b)
		for i := range len(b) - 3 {
			for _, change := range []uint32{1, 1 << 31, 0x01010101, 0xedb88320, 0xdb710641, math.MaxUint32, r.Uint32() | 1, r.Uint32() | 1<<31} {
				turned := bytes.Clone(b)
				for k, c := range binary.LittleEndian.AppendUint32(nil, change) {
					turned[i+k] ^= c
				}
				if Sum(turned) == whole {
					t.Fatalf("%d bytes: %08x at %d doesn't show", len(b), change, i)
				}
			}
		}
	}
}

// TestEachChangeOfFourNeighboursShows: bits that are turned together change the sum by the xor of what each one changes.
// Where no choice of the 32 bits of four neighbours comes to 0 by xor, each of their 2^32 - 1 changes shows.
func TestEachChangeOfFourNeighboursShows(t *testing.T) {
	b := someBytes(7, 64)
	whole := Sum(b)
	for i := range len(b) - 3 {
		var byHighest [33]uint32
		for bit := range 32 {
			turned := bytes.Clone(b)
			turned[i+bit/8] ^= 1 << (bit % 8)
			change := Sum(turned) ^ whole
			for change != 0 && byHighest[highest(change)] != 0 {
				change ^= byHighest[highest(change)]
			}
			if change == 0 {
				t.Fatalf("a change of the four bytes at %d doesn't show", i)
			}
			byHighest[highest(change)] = change
		}
	}
}

func highest(n uint32) int {
	place := 0
	for ; n != 0; n /= 2 {
		place++
	}
	return place
}

func TestTurnedNeighboursShow(t *testing.T) {
	b := someBytes(8, 300)
	whole := Sum(b)
	for i := range len(b) - 1 {
		turned := bytes.Clone(b)
		turned[i], turned[i+1] = b[i+1], b[i]
		if b[i] != b[i+1] && Sum(turned) == whole {
			t.Errorf("the bytes %d and %d, each in the other's place, don't show", i, i+1)
		}
	}
}

func TestZerosShow(t *testing.T) {
	seen := map[uint32]int{}
	for size := range 300 {
		seen[Sum(make([]byte, size))]++
	}
	if len(seen) != 300 {
		t.Errorf("300 lengths of zeros have %d sums", len(seen))
	}
}

// TestSumOfWhatHasItsSum: with its own four bytes behind it each text comes to one and the same sum, so another one of these bytes shows too.
func TestSumOfWhatHasItsSum(t *testing.T) {
	for _, b := range texts() {
		c := Sum(b)
		if got := More(c, Four(c)); got != 0x2144df1c {
			t.Errorf("%d bytes and their sum: %08x", len(b), got)
		}
		for i := range 4 {
			turned := Four(c)
			turned[i] ^= 1
			if got := More(c, turned); got == 0x2144df1c {
				t.Errorf("%d bytes and their sum, its byte %d another one: it doesn't show", len(b), i)
			}
		}
	}
}

func FuzzParts(f *testing.F) {
	f.Add([]byte(""), []byte(""))
	f.Add([]byte("1234"), []byte("56789"))
	f.Add([]byte{0}, []byte{255, 255, 255, 255})
	f.Fuzz(func(t *testing.T, a, b []byte) {
		whole := append(bytes.Clone(a), b...)
		if got, want := More(Sum(a), b), crc32.ChecksumIEEE(whole); got != want || Sum(whole) != want {
			t.Fatalf("More(Sum(%x), %x): %08x; want %08x", a, b, got, want)
		}
	})
}

package leb

import (
	"bytes"
	"encoding/binary"
	"math"
	"math/rand"
	"strings"
	"testing"

	"reprise/api"
)

// nine bytes that all say that more follow.
const nine = "\xff\xff\xff\xff\xff\xff\xff\xff\xff"

// edgeNumbers: the least and the greatest number of each length, and their neighbours, and numbers of all sizes.
func edgeNumbers() []uint64 {
	out := []uint64{0, 1, 2, 300, math.MaxInt64, 1 << 63, math.MaxUint64 - 1, math.MaxUint64}
	for bit := 1; bit < 64; bit++ {
		out = append(out, 1<<bit-1, 1<<bit, 1<<bit+1)
	}
	r := rand.New(rand.NewSource(1))
	for range 2000 {
		out = append(out, r.Uint64()>>r.Intn(64))
	}
	return out
}

func edgeSigned() []int64 {
	out := []int64{math.MinInt64, math.MinInt64 + 1, math.MaxInt64}
	for _, n := range edgeNumbers() {
		out = append(out, int64(n), -int64(n))
	}
	return out
}

func wantRead(t *testing.T, b []byte, n uint64, size int, errno api.Errno) {
	t.Helper()
	gotN, gotSize, gotErrno := Read(b)
	if gotN != n || gotSize != size || gotErrno != errno {
		t.Errorf("Read(%x): %d, %d, %d; want %d, %d, %d", b, gotN, gotSize, gotErrno, n, size, errno)
	}
}

func wantReadBytes(t *testing.T, b []byte, most int, part []byte, size int, errno api.Errno) {
	t.Helper()
	gotPart, gotSize, gotErrno := ReadBytes(b, most)
	if !bytes.Equal(gotPart, part) || gotSize != size || gotErrno != errno {
		t.Errorf("ReadBytes(%x, %d): %x, %d, %d; want %x, %d, %d", b, most, gotPart, gotSize, gotErrno, part, size, errno)
	}
}

// P1.1

func TestPutKnown(t *testing.T) {
	cases := []struct {
		n    uint64
		want string
	}{
		{0, "\x00"},
		{1, "\x01"},
		{127, "\x7f"},
		{128, "\x80\x01"},
		{300, "\xac\x02"},
		{16383, "\xff\x7f"},
		{16384, "\x80\x80\x01"},
		{1<<56 - 1, "\xff\xff\xff\xff\xff\xff\xff\x7f"},
		{1 << 56, "\x80\x80\x80\x80\x80\x80\x80\x80\x01"},
		{1<<63 - 1, "\xff\xff\xff\xff\xff\xff\xff\xff\x7f"},
		{1 << 63, "\x80\x80\x80\x80\x80\x80\x80\x80\x80\x01"},
		{math.MaxUint64, nine + "\x01"},
	}
	for _, c := range cases {
		if got := Put(c.n); string(got) != c.want {
			t.Errorf("Put(%d): %x; want %x", c.n, got, c.want)
		}
		wantRead(t, []byte(c.want), c.n, len(c.want), api.OK)
	}
}

func TestPutAsTheLibraryDoes(t *testing.T) {
	for _, n := range edgeNumbers() {
		if got, want := Put(n), binary.AppendUvarint(nil, n); !bytes.Equal(got, want) {
			t.Errorf("Put(%d): %x; want %x", n, got, want)
		}
	}
}

func TestReadWhatPutWrote(t *testing.T) {
	for _, n := range edgeNumbers() {
		b := Put(n)
		for _, behind := range []string{"", "\x00", "\x80", "\xff\xff", nine + nine} {
			wantRead(t, append(bytes.Clone(b), behind...), n, len(b), api.OK)
		}
	}
}

func TestReadEndsAhead(t *testing.T) {
	wantRead(t, nil, 0, 0, api.ErrShort)
	wantRead(t, []byte{}, 0, 0, api.ErrShort)
	for k := 1; k <= len(nine); k++ {
		wantRead(t, []byte(nine[:k]), 0, 0, api.ErrShort)
		wantRead(t, bytes.Repeat([]byte{0x80}, k), 0, 0, api.ErrShort)
	}
	for _, n := range edgeNumbers() {
		b := Put(n)
		for k := range b {
			wantRead(t, b[:k], 0, 0, api.ErrShort)
		}
	}
}

func TestReadTenthByte(t *testing.T) {
	wantRead(t, []byte(nine+"\x01"), math.MaxUint64, 10, api.OK)
	wantRead(t, []byte(nine+"\x00"), 0, 0, api.ErrBytes)
	for c := 2; c < 256; c++ {
		b := append([]byte(nine), byte(c))
		wantRead(t, b, 0, 0, api.ErrBytes)
		wantRead(t, append(b, 1), 0, 0, api.ErrBytes)
		wantRead(t, append(b, 0), 0, 0, api.ErrBytes)
	}
}

func TestReadLastByteIsZero(t *testing.T) {
	wantRead(t, []byte{0}, 0, 1, api.OK)
	wantRead(t, []byte{0, 0}, 0, 1, api.OK)
	for k := 1; k <= len(nine); k++ {
		wantRead(t, []byte(nine[:k]+"\x00"), 0, 0, api.ErrBytes)
		wantRead(t, []byte(nine[:k]+"\x00\x01"), 0, 0, api.ErrBytes)
		wantRead(t, []byte(strings.Repeat("\x80", k)+"\x00"), 0, 0, api.ErrBytes)
	}
}

// P1.2

func TestZigZagKnown(t *testing.T) {
	cases := []struct {
		n int64
		z uint64
	}{
		{0, 0}, {-1, 1}, {1, 2}, {-2, 3}, {2, 4}, {-64, 127}, {64, 128},
		{1000, 2000}, {-1000, 1999},
		{math.MaxInt64, math.MaxUint64 - 1},
		{math.MinInt64 + 1, math.MaxUint64 - 2},
		{math.MinInt64, math.MaxUint64},
	}
	for _, c := range cases {
		if got := Zig(c.n); got != c.z {
			t.Errorf("Zig(%d): %d; want %d", c.n, got, c.z)
		}
		if got := Zag(c.z); got != c.n {
			t.Errorf("Zag(%d): %d; want %d", c.z, got, c.n)
		}
	}
}

func TestZigZagAreEachOthersWayBack(t *testing.T) {
	for _, n := range edgeSigned() {
		if got, want := Put(Zig(n)), binary.AppendVarint(nil, n); !bytes.Equal(got, want) {
			t.Errorf("Put(Zig(%d)): %x; want %x", n, got, want)
		}
		if got := Zag(Zig(n)); got != n {
			t.Errorf("Zag(Zig(%d)): %d", n, got)
		}
	}
	for _, n := range edgeNumbers() {
		if got := Zig(Zag(n)); got != n {
			t.Errorf("Zig(Zag(%d)): %d", n, got)
		}
	}
}

func TestBytesThereAndBack(t *testing.T) {
	for _, size := range []int{0, 1, 2, 127, 128, 129, 16383, 16384, 70000} {
		b := bytes.Repeat([]byte{0xfe}, size)
		all := PutBytes(b)
		if want := append(binary.AppendUvarint(nil, uint64(size)), b...); !bytes.Equal(all, want) {
			t.Fatalf("PutBytes of %d bytes isn't its length and they", size)
		}
		for _, most := range []int{size, size + 1, math.MaxInt} {
			wantReadBytes(t, all, most, b, len(all), api.OK)
			wantReadBytes(t, append(bytes.Clone(all), 0, 9), most, b, len(all), api.OK)
		}
		wantReadBytes(t, all[:len(all)-1], math.MaxInt, nil, 0, api.ErrShort)
	}
	if got := PutBytes(nil); !bytes.Equal(got, []byte{0}) {
		t.Errorf("PutBytes(nil): %x", got)
	}
}

func TestReadBytesMost(t *testing.T) {
	three := []byte("\x03abc")
	wantReadBytes(t, three, 3, []byte("abc"), 4, api.OK)
	wantReadBytes(t, three, 2, nil, 0, api.ErrLong)
	for _, most := range []int{0, -1, -3, math.MinInt} {
		wantReadBytes(t, three, most, nil, 0, api.ErrLong)
		wantReadBytes(t, []byte("\x00abc"), most, nil, 1, api.OK)
		wantReadBytes(t, []byte("\x01"), most, nil, 0, api.ErrLong)
	}
}

func TestReadBytesErrorsInTheirOrder(t *testing.T) {
	for _, most := range []int{math.MinInt, -1, 0, 1, math.MaxInt} {
		wantReadBytes(t, nil, most, nil, 0, api.ErrShort)
		wantReadBytes(t, []byte("\x80"), most, nil, 0, api.ErrShort)
		wantReadBytes(t, []byte("\x80\x00"), most, nil, 0, api.ErrBytes)
		wantReadBytes(t, []byte(nine+"\x02"), most, nil, 0, api.ErrBytes)
	}
	// Too long and not all there: what is named first holds.
	wantReadBytes(t, []byte("\x05abc"), 4, nil, 0, api.ErrLong)
	wantReadBytes(t, []byte("\x05abc"), 5, nil, 0, api.ErrShort)
	wantReadBytes(t, []byte("\x05"), 5, nil, 0, api.ErrShort)
}

func TestReadBytesGreatLengths(t *testing.T) {
	for _, n := range []uint64{math.MaxInt64 + 1, math.MaxUint64 - 1, math.MaxUint64} {
		wantReadBytes(t, append(Put(n), "abc"...), math.MaxInt, nil, 0, api.ErrLong)
		wantReadBytes(t, append(Put(n), "abc"...), -1, nil, 0, api.ErrLong)
	}
	for _, n := range []uint64{math.MaxInt64, math.MaxInt64 - 1, math.MaxUint32, 1 << 31} {
		wantReadBytes(t, append(Put(n), "abc"...), math.MaxInt64, nil, 0, api.ErrShort)
	}
}

func TestBytesAreNewMemory(t *testing.T) {
	room := []byte("\x02abspare room")
	given := room[:3]
	before := bytes.Clone(room)

	part, _, _ := ReadBytes(given, 9)
	part[0] = 'z'
	_ = append(part, "more"...)
	all := PutBytes(given)
	all[1] = 'z'
	_ = append(all, "more"...)
	if !bytes.Equal(room, before) {
		t.Errorf("what was handed in is now %q", room)
	}

	part, _, _ = ReadBytes(given, 9)
	all = PutBytes(given)
	clear(room)
	if string(part) != "ab" || string(all) != "\x03\x02ab" {
		t.Errorf("what was answered is now %q, %q", part, all)
	}

	one, other := Put(300), Put(300)
	one[0] = 0
	if string(other) != "\xac\x02" {
		t.Errorf("two answers of Put share memory: %x", other)
	}
}

// P1.3

// wantOneForm: whatever Read takes is what Put writes, and is taken as the library takes it.
func wantOneForm(t *testing.T, b []byte) {
	t.Helper()
	n, size, errno := Read(b)
	if errno != api.OK {
		if n != 0 || size != 0 {
			t.Fatalf("Read(%x): %d, %d beside an error", b, n, size)
		}
		return
	}
	if !bytes.Equal(Put(n), b[:size]) {
		t.Fatalf("Read(%x): %d, which Put writes as %x", b, n, Put(n))
	}
	if want, wantSize := binary.Uvarint(b); n != want || size != wantSize {
		t.Fatalf("Read(%x): %d, %d; want %d, %d", b, n, size, want, wantSize)
	}
}

func TestOneFormOfShortBytes(t *testing.T) {
	forms := map[uint64]int{}
	for i := range 1 << 16 {
		b := []byte{byte(i >> 8), byte(i)}
		wantOneForm(t, b)
		wantOneForm(t, b[1:])
		if n, size, errno := Read(b); errno == api.OK && size == 2 {
			forms[n]++
		}
		if n, _, errno := Read(b[1:]); errno == api.OK && i < 256 {
			forms[n]++
		}
	}
	for n := range uint64(1 << 14) {
		if forms[n] != 1 {
			t.Errorf("%d has %d forms of at most two bytes", n, forms[n])
		}
	}
	if len(forms) != 1<<14 {
		t.Errorf("%d numbers have forms of at most two bytes", len(forms))
	}
}

func TestOneFormOfLongBytes(t *testing.T) {
	r := rand.New(rand.NewSource(2))
	last := []byte{0, 1, 2, 0x7f, 0x80, 0x81, 0xff}
	for range 100000 {
		b := make([]byte, r.Intn(12))
		for i := range b {
			b[i] = byte(r.Intn(256)) | 0x80
		}
		wantOneForm(t, append(b, last[r.Intn(len(last))], byte(r.Intn(256))))
	}
}

func FuzzOneForm(f *testing.F) {
	for _, s := range []string{"", "\x00", "\x80\x00", "\xac\x02", nine, nine + "\x01", nine + "\x02"} {
		f.Add([]byte(s))
	}
	f.Fuzz(func(t *testing.T, b []byte) {
		wantOneForm(t, b)
		part, size, errno := ReadBytes(b, len(b))
		if errno == api.OK && !bytes.Equal(PutBytes(part), b[:size]) {
			t.Fatalf("ReadBytes(%x): %x, which PutBytes writes as %x", b, part, PutBytes(part))
		}
	})
}

package runs

import (
	"bytes"
	"encoding/binary"
	"math"
	"math/rand"
	"slices"
	"strings"
	"testing"

	"reprise/api"
	"reprise/leb"
)

// tooLong, longForm: bytes that chapter 1 refuses, a tenth byte above 1 and a number that has a shorter form.
const (
	tooLong  = "\xff\xff\xff\xff\xff\xff\xff\xff\xff\x02"
	longForm = "\xe1\x00"
)

func cell(r rune, attr uint16, half uint8) api.Cell {
	return api.Cell{R: r, Attr: attr, Half: half}
}

func letter(r rune) api.Cell {
	return cell(r, 0, 0)
}

// number answers a number as the library writes it.
func number(n uint64) string {
	return string(binary.AppendUvarint(nil, n))
}

func numbers(l ...uint64) string {
	out := ""
	for _, n := range l {
		out += number(n)
	}
	return out
}

// wantedRight: P6.1 word by word; the colours are as package api says where they are.
func wantedRight(c api.Cell) bool {
	if c.R < 0 || c.R > 0x10ffff || c.R >= 0xd800 && c.R <= 0xdfff {
		return false
	}
	if c.Attr >= 4096 || c.Attr/8%2 == 1 || c.Attr/16%16 > 8 || c.Attr/256%16 > 8 {
		return false
	}
	switch c.Half {
	case 0, 1:
		return c.R != 0
	case 2:
		return c.R == 0
	}
	return false
}

// wantedPut: P6.1 word by word, from the end on.
func wantedPut(l []api.Cell) (string, api.Errno) {
	out, count := "", uint64(0)
	for i := len(l) - 1; i >= 0; i-- {
		if !wantedRight(l[i]) {
			return "", api.ErrKind
		}
		count++
		if i == 0 || l[i-1] != l[i] {
			out = numbers(count, uint64(l[i].R), 4*uint64(l[i].Attr)+uint64(l[i].Half)) + out
			count = 0
		}
	}
	return out, api.OK
}

// wantedRead: P6.1 word by word; a cell is found by what its numbers would be.
func wantedRead(b []byte, n int) ([]api.Cell, int, api.Errno) {
	var out []api.Cell
	at := 0
	for len(out) < n {
		var three [3]uint64
		for i := range three {
			number, size, errno := leb.Read(b[at:])
			if errno != api.OK {
				return nil, 0, errno
			}
			three[i] = number
			at += size
		}
		count, c := three[0], cell(rune(three[1]), uint16(three[2]/4), uint8(three[2]%4))
		same := uint64(uint32(c.R)) == three[1] && 4*uint64(c.Attr)+uint64(c.Half) == three[2]
		if count == 0 || count > uint64(n-len(out)) || !same || !wantedRight(c) {
			return nil, 0, api.ErrBytes
		}
		if len(out) > 0 && out[len(out)-1] == c {
			return nil, 0, api.ErrBytes
		}
		out = append(out, slices.Repeat([]api.Cell{c}, int(count))...)
	}
	return out, at, api.OK
}

func wantRight(t *testing.T, c api.Cell, want bool) {
	t.Helper()
	if got := Right(c); got != want {
		t.Errorf("Right(%+v): %v; want %v", c, got, want)
	}
	errno := api.ErrKind
	if want {
		errno = api.OK
	}
	if _, got := Put([]api.Cell{c}); got != errno {
		t.Errorf("Put of %+v: %d; want %d", c, got, errno)
	}
	// What stands in no number can't be told by bytes.
	if c.Half > 3 || c.R < 0 {
		return
	}
	b := numbers(1, uint64(c.R), 4*uint64(c.Attr)+uint64(c.Half))
	if want {
		wantRead(t, b, 1, []api.Cell{c}, len(b), api.OK)
	} else {
		wantRead(t, b, 1, nil, 0, api.ErrBytes)
	}
}

func wantRead(t *testing.T, b string, n int, want []api.Cell, size int, errno api.Errno) {
	t.Helper()
	got, gotSize, gotErrno := Read([]byte(b), n)
	if !slices.Equal(got, want) || gotSize != size || gotErrno != errno {
		t.Errorf("Read(%x, %d): %v, %d, %d; want %v, %d, %d", b, n, got, gotSize, gotErrno, want, size, errno)
	}
}

func wantError(t *testing.T, b string, n int, errno api.Errno) {
	t.Helper()
	wantRead(t, b, n, nil, 0, errno)
}

// wantPut holds Put of l against want, and Read of it against l, with other bytes behind it or none.
func wantPut(t *testing.T, l []api.Cell, want string) {
	t.Helper()
	got, errno := Put(l)
	if string(got) != want || errno != api.OK {
		t.Errorf("Put(%v): %x, %d; want %x", l, got, errno, want)
	}
	for _, behind := range []string{"", "\x00", "\x80", "\x01\x20\x00", want, tooLong} {
		wantRead(t, want+behind, len(l), l, len(want), api.OK)
	}
}

// wantAsPromised holds Read of any bytes against the promise, and Put of what it told against the bytes.
func wantAsPromised(t *testing.T, b []byte, n int) {
	t.Helper()
	want, size, errno := wantedRead(b, n)
	wantRead(t, string(b), n, want, size, errno)
	if errno != api.OK {
		return
	}
	if again, errno := Put(want); !bytes.Equal(again, b[:size]) || errno != api.OK {
		t.Errorf("Put of what Read(%x, %d) tells: %x, %d", b, n, again, errno)
	}
}

// someCells: right ones, of which each differs from another in one field alone.
func someCells() []api.Cell {
	return []api.Cell{
		letter(' '), letter('a'), letter('b'), cell('a', api.Bold, 0), cell('a', 0, 1), cell('a', 0x887, 1),
		cell(0, 0, 2), cell(0, 0x10, 2), cell(0, 0x887, 2), cell(0x6f22, 0x10, 1), cell(0x10ffff, 0x880, 0), cell(0xe000, 0x800, 1),
	}
}

// manyCells: runs of few kinds of cells, most of them short.
func manyCells(r *rand.Rand, most int) []api.Cell {
	var out []api.Cell
	kinds := someCells()
	for range r.Intn(most + 1) {
		c := kinds[r.Intn(len(kinds))]
		out = append(out, slices.Repeat([]api.Cell{c}, 1+r.Intn(1+r.Intn(300)))...)
	}
	return out
}

// P6.1: Right

func TestRightRunes(t *testing.T) {
	for _, c := range []struct {
		r    rune
		want bool
	}{
		{math.MinInt32, false}, {-0x10ffff, false}, {-'a', false}, {-2, false}, {-1, false}, {0, false}, {1, true},
		{7, true}, {' ', true}, {'a', true}, {0x7f, true}, {0x80, true}, {0x301, true}, {0x6f22, true},
		{0xd7ff, true}, {0xd800, false}, {0xdbff, false}, {0xdc00, false}, {0xdfff, false}, {0xe000, true},
		{0xfffd, true}, {0xfffe, true}, {0xffff, true}, {0x10000, true}, {0x1d800, true}, {0x10d800, true},
		{0x10fffe, true}, {0x10ffff, true}, {0x110000, false}, {0x11d800, false}, {0x200061, false}, {math.MaxInt32, false},
	} {
		wantRight(t, letter(c.r), c.want)
		wantRight(t, cell(c.r, 0x887, 1), c.want)
	}
}

func TestRightAllRunes(t *testing.T) {
	for r := rune(-10); r < 0x110100; r++ {
		for half := range uint8(3) {
			if c := cell(r, 0, half); Right(c) != wantedRight(c) {
				t.Fatalf("Right(%+v): %v", c, Right(c))
			}
		}
	}
}

func TestRightAttr(t *testing.T) {
	for _, c := range []struct {
		attr uint16
		want bool
	}{
		{0, true}, {api.Bold, true}, {api.Under, true}, {api.Reverse, true}, {7, true},
		{8, false}, {15, false}, {0x18, false}, {0x108, false}, {0x88f, false},
		{0x10, true}, {0x80, true}, {0x90, false}, {0xa0, false}, {0xf0, false},
		{0x100, true}, {0x800, true}, {0x900, false}, {0xa00, false}, {0xf00, false},
		{0x887, true}, {0x880, true}, {0x897, false}, {0x987, false}, {0x810, true}, {0x890, false}, {0x980, false},
		{4095, false}, {4096, false}, {0x1010, false}, {0x2000, false}, {0x4000, false}, {0x8000, false}, {0xffff, false},
	} {
		for _, one := range []api.Cell{cell('a', c.attr, 0), cell('a', c.attr, 1), cell(0, c.attr, 2)} {
			wantRight(t, one, c.want)
		}
	}
}

func TestRightAllAttr(t *testing.T) {
	for attr := range 1 << 16 {
		for half := range uint8(4) {
			for _, r := range []rune{0, 'a', 0x6f22} {
				c := cell(r, uint16(attr), half)
				if Right(c) != wantedRight(c) {
					t.Fatalf("Right(%+v): %v", c, Right(c))
				}
			}
		}
	}
}

func TestRightHalf(t *testing.T) {
	for half := range 256 {
		for _, attr := range []uint16{0, 0x887} {
			wantRight(t, cell(0, attr, uint8(half)), half == 2)
			wantRight(t, cell('a', attr, uint8(half)), half < 2)
			wantRight(t, cell(1, attr, uint8(half)), half < 2)
			wantRight(t, cell(0x6f22, attr, uint8(half)), half < 2)
			wantRight(t, cell(0x10ffff, attr, uint8(half)), half < 2)
			wantRight(t, cell(-1, attr, uint8(half)), false)
			wantRight(t, cell(0xd800, attr, uint8(half)), false)
			wantRight(t, cell(0x110000, attr, uint8(half)), false)
		}
	}
}

// P6.1: Put

func TestPutKnown(t *testing.T) {
	a, b, blank := letter('a'), letter('b'), letter(' ')
	left, right := cell(0x6f22, 0x10, 1), cell(0, 0x10, 2)
	wantPut(t, nil, "")
	wantPut(t, []api.Cell{}, "")
	wantPut(t, []api.Cell{a}, "\x01a\x00")
	wantPut(t, []api.Cell{a, a}, "\x02a\x00")
	wantPut(t, []api.Cell{a, b}, "\x01a\x00\x01b\x00")
	wantPut(t, []api.Cell{a, b, a}, "\x01a\x00\x01b\x00\x01a\x00")
	wantPut(t, []api.Cell{a, a, b, b, b, a}, "\x02a\x00\x03b\x00\x01a\x00")
	wantPut(t, []api.Cell{a, b, blank, blank, blank}, "\x01a\x00\x01b\x00\x03 \x00")
	wantPut(t, []api.Cell{blank, blank, a, blank}, "\x02 \x00\x01a\x00\x01 \x00")
	// A wide rune's halves are cells of their own.
	wantPut(t, []api.Cell{left, right, left, right}, "\x01\xa2\xde\x01\x41\x01\x00\x42\x01\xa2\xde\x01\x41\x01\x00\x42")
	wantPut(t, []api.Cell{right, right}, "\x02\x00\x42")
	// 4 times Attr and Half, at its greatest.
	wantPut(t, []api.Cell{cell('a', 0x887, 0)}, "\x01a\x9c\x44")
	wantPut(t, []api.Cell{cell('a', 0x887, 1)}, "\x01a\x9d\x44")
	wantPut(t, []api.Cell{cell(0, 0x887, 2)}, "\x01\x00\x9e\x44")
	wantPut(t, []api.Cell{cell(0x10ffff, 0, 0)}, "\x01\xff\xff\x43\x00")
}

// TestPutAlike: cells that differ in one field alone are of two runs.
func TestPutAlike(t *testing.T) {
	a := cell('a', 0x21, 0)
	for _, other := range []api.Cell{cell('b', 0x21, 0), cell('a', 0x20, 0), cell('a', 0x31, 0), cell('a', 0x121, 0), cell('a', 0x21, 1)} {
		for _, l := range [][]api.Cell{{a, other}, {other, a}, {a, a, other, other, a}, {a, other, other, a, a, a}} {
			want, _ := wantedPut(l)
			wantPut(t, l, want)
		}
	}
	wantPut(t, []api.Cell{a, cell('b', 0x21, 0)}, "\x01a\x84\x01\x01b\x84\x01")
	wantPut(t, []api.Cell{a, cell('a', 0x22, 0)}, "\x01a\x84\x01\x01a\x88\x01")
	wantPut(t, []api.Cell{a, cell('a', 0x21, 1)}, "\x01a\x84\x01\x01a\x85\x01")
	wantPut(t, []api.Cell{cell(0, 0, 2), cell(0, 1, 2)}, "\x01\x00\x02\x01\x00\x06")
}

func TestPutCounts(t *testing.T) {
	for _, count := range []int{1, 2, 126, 127, 128, 129, 300, 16383, 16384, 100000, api.MaxSize * api.MaxSize} {
		l := slices.Repeat([]api.Cell{letter('a')}, count)
		got, errno := Put(l)
		if want := number(uint64(count)) + "a\x00"; string(got) != want || errno != api.OK {
			t.Errorf("Put of %d cells: %x, %d; want %x", count, got, errno, want)
		}
		back, size, errno := Read(got, count)
		if !slices.Equal(back, l) || size != len(got) || errno != api.OK {
			t.Errorf("Read of %d cells: %d of them, %d, %d", count, len(back), size, errno)
		}
	}
}

func TestPutWrong(t *testing.T) {
	a := letter('a')
	for _, wrong := range []api.Cell{
		{}, cell(0, 0, 1), cell(0, 0, 3), cell('a', 0, 2), cell('a', 0, 3), cell('a', 0, 255), cell(-1, 0, 0),
		cell(0xd800, 0, 0), cell(0xdfff, 0, 1), cell(0x110000, 0, 0), cell('a', 8, 0), cell('a', 0x90, 0), cell('a', 0x900, 0), cell('a', 4096, 0),
	} {
		for size := range 5 {
			for at := range size {
				l := slices.Repeat([]api.Cell{a}, size)
				l[at] = wrong
				if b, errno := Put(l); len(b) != 0 || errno != api.ErrKind {
					t.Errorf("Put(%v): %x, %d; want %d", l, b, errno, api.ErrKind)
				}
			}
			all := slices.Repeat([]api.Cell{wrong}, size+1)
			if b, errno := Put(all); len(b) != 0 || errno != api.ErrKind {
				t.Errorf("Put(%v): %x, %d; want %d", all, b, errno, api.ErrKind)
			}
		}
	}
}

func TestPutMany(t *testing.T) {
	r := rand.New(rand.NewSource(1))
	for range 3000 {
		l := manyCells(r, 12)
		want, errno := wantedPut(l)
		if errno != api.OK {
			t.Fatalf("these cells are right: %v", l)
		}
		wantPut(t, l, want)
		if t.Failed() {
			return
		}
	}
}

// P6.1: Read

func TestReadNone(t *testing.T) {
	for _, n := range []int{0, -1, -7, math.MinInt} {
		for _, b := range []string{"", "\x00", "\x80", "\x00a\x00", "\x01a\x00", tooLong, longForm} {
			wantRead(t, b, n, nil, 0, api.OK)
		}
	}
	if l, size, errno := Read(nil, 0); len(l) != 0 || size != 0 || errno != api.OK {
		t.Errorf("Read(nil, 0): %v, %d, %d", l, size, errno)
	}
	if l, size, errno := Read(nil, 1); len(l) != 0 || size != 0 || errno != api.ErrShort {
		t.Errorf("Read(nil, 1): %v, %d, %d", l, size, errno)
	}
}

// TestReadHowMany: n where a run ends is those ahead; within a run it is an error, and so is more than there are.
func TestReadHowMany(t *testing.T) {
	a, b, c := letter('a'), cell('b', 1, 0), cell(0, 0, 2)
	l := []api.Cell{a, a, a, b, c, c}
	whole := "\x03a\x00\x01b\x04\x02\x00\x02"
	ends := map[int]int{0: 0, 3: 3, 4: 6, 6: 9}
	for n := range len(l) + 1 {
		if size, found := ends[n]; found {
			wantRead(t, whole, n, l[:n], size, api.OK)
		} else {
			wantError(t, whole, n, api.ErrBytes)
		}
	}
	for _, n := range []int{7, 8, 1000, math.MaxInt32, math.MaxInt - 1, math.MaxInt} {
		wantError(t, whole, n, api.ErrShort)
	}
	// Behind the cells whatever there is isn't looked at.
	wantRead(t, "\x03a\x00\x00", 3, l[:3], 3, api.OK)
	wantRead(t, "\x03a\x00\x01a\x00", 3, l[:3], 3, api.OK)
	wantRead(t, "\x03a\x00"+tooLong, 3, l[:3], 3, api.OK)
	wantRead(t, "\x03a\x00\x80", 3, l[:3], 3, api.OK)
}

// TestReadCut: cut anywhere there isn't all of it, whatever the numbers ahead of the cut say.
func TestReadCut(t *testing.T) {
	r := rand.New(rand.NewSource(2))
	for range 300 {
		l := manyCells(r, 6)
		b, _ := wantedPut(l)
		for k := range b {
			wantError(t, b[:k], len(l), api.ErrShort)
			wantError(t, b[:k], len(l)+1, api.ErrShort)
		}
		wantRead(t, b, len(l), l, len(b), api.OK)
	}
}

func TestReadWrongNumbers(t *testing.T) {
	for _, n := range []int{1, 2, 300, math.MaxInt} {
		for _, ahead := range []string{"", "\x01", "\x01a", "\x00", "\x00\x00", number(math.MaxUint64), "\x01" + number(math.MaxUint64)} {
			wantError(t, ahead+tooLong+"\x00\x00", n, api.ErrBytes)
			wantError(t, ahead+longForm+"a\x00", n, api.ErrBytes)
			wantError(t, ahead+"\x80\x00\x00\x00", n, api.ErrBytes)
			wantError(t, ahead+tooLong[:9]+"\x00\x00\x00", n, api.ErrBytes)
			// Chapter 1 refuses them as soon as the byte is there; ahead of it there isn't all of a number.
			wantError(t, ahead+tooLong, n, api.ErrBytes)
			wantError(t, ahead+tooLong[:9], n, api.ErrShort)
			wantError(t, ahead+longForm, n, api.ErrBytes)
			wantError(t, ahead+longForm[:1], n, api.ErrShort)
		}
	}
}

func TestReadCounts(t *testing.T) {
	a := letter('a')
	wantError(t, "\x00a\x00", 1, api.ErrBytes)
	wantError(t, "\x00a\x00\x01a\x00", 1, api.ErrBytes)
	wantError(t, "\x01b\x00\x00a\x00\x01a\x00", 2, api.ErrBytes)
	for n := 1; n < 300; n++ {
		count := uint64(n)
		wantRead(t, numbers(count, 'a', 0), n, slices.Repeat([]api.Cell{a}, n), len(number(count))+2, api.OK)
		wantError(t, numbers(count+1, 'a', 0), n, api.ErrBytes)
		wantError(t, numbers(count+1, 'a', 0, 1, 'b', 0), n, api.ErrBytes)
		wantError(t, numbers(count, 'a', 0), n+1, api.ErrShort)
		// What went ahead counts.
		wantError(t, numbers(1, 'b', 0, count+1, 'a', 0), n+1, api.ErrBytes)
		wantRead(t, numbers(1, 'b', 0, count, 'a', 0), n+1, append([]api.Cell{letter('b')}, slices.Repeat([]api.Cell{a}, n)...), len(number(count))+5, api.OK)
	}
}

// TestReadGreatCounts: of more cells than there can be no room is made for them ahead of the error.
func TestReadGreatCounts(t *testing.T) {
	greatest := uint64(math.MaxInt)
	for _, count := range []uint64{greatest + 1, greatest + 2, math.MaxUint64 - 1, math.MaxUint64, 1<<32 + 1} {
		for _, n := range []int{1, 2, 5, math.MaxInt32} {
			wantError(t, numbers(count, 'a', 0), n, api.ErrBytes)
			wantError(t, numbers(1, 'b', 0, count, 'a', 0), n+1, api.ErrBytes)
		}
	}
	for _, count := range []uint64{greatest + 1, math.MaxUint64} {
		wantError(t, numbers(count, 'a', 0), math.MaxInt, api.ErrBytes)
	}
	for _, count := range []uint64{1 << 40, greatest / 2, greatest - 1} {
		wantError(t, numbers(count, 'a', 0), math.MaxInt, api.ErrShort)
		wantError(t, numbers(count, 'a', 0), int(count)-1, api.ErrBytes)
		wantError(t, numbers(count, 'a', 0), int(count)+1, api.ErrShort)
		wantError(t, numbers(count, 'a', 0, 1, 'a', 0), int(count)+1, api.ErrBytes)
		wantError(t, numbers(count, 'a', 0, 2, 'b', 0), int(count)+1, api.ErrBytes)
		wantError(t, numbers(count, 'a', 0, 0, 'b', 0), int(count)+1, api.ErrBytes)
		wantError(t, numbers(count, 'a', 0, math.MaxUint64, 'b', 0), int(count)+1, api.ErrBytes)
		wantError(t, numbers(1, 'b', 0, count, 'a', 0), int(count), api.ErrBytes)
	}
}

// TestReadGreatCells: an R, an Attr or a Half that would be right if its number were cut to its type's bits.
func TestReadGreatCells(t *testing.T) {
	for _, r := range []uint64{
		0x110000, math.MaxInt32, 1 << 31, 1<<31 | 'a', math.MaxUint32, 1 << 32, 1<<32 | 'a', 1<<32 | 0x10ffff, 1<<40 | 'a', 1<<63 | 'a', math.MaxUint64,
	} {
		for look := range uint64(4) {
			wantError(t, numbers(1, r, look), 1, api.ErrBytes)
		}
	}
	for _, look := range []uint64{
		3, 4*8 + 0, 4 * 0x90, 4 * 0x900, 4*4095 + 0, 4*4095 + 3, 4 * 4096, 4*4096 + 1, 4 * 0x8000, 4*math.MaxUint16 + 3, 4 << 16, 4<<16 + 1,
		4 * (1<<16 + 0x887), 1 << 32, 1<<32 + 4, 1 << 40, 1 << 62, 1 << 63, 1<<63 + 4, math.MaxUint64 - 3, math.MaxUint64,
	} {
		wantError(t, numbers(1, 'a', look), 1, api.ErrBytes)
		wantError(t, numbers(1, 0, look), 1, api.ErrBytes)
	}
	for _, look := range []uint64{4<<16 + 2, 1<<32 + 2, 1<<63 + 2, math.MaxUint64 - 1} {
		wantError(t, numbers(1, 0, look), 1, api.ErrBytes)
	}
}

// TestReadAllLooks: each number that Attr and Half may come to, and many that they can't.
func TestReadAllLooks(t *testing.T) {
	for look := range uint64(1 << 17) {
		for _, r := range []rune{0, 'a'} {
			b := numbers(1, uint64(r), look)
			c := cell(r, uint16(look/4), uint8(look%4))
			if wantedRight(c) {
				wantRead(t, b, 1, []api.Cell{c}, len(b), api.OK)
			} else {
				wantError(t, b, 1, api.ErrBytes)
			}
		}
	}
}

func TestReadSameCellAgain(t *testing.T) {
	for _, c := range someCells() {
		r, look := uint64(c.R), 4*uint64(c.Attr)+uint64(c.Half)
		wantError(t, numbers(1, r, look, 1, r, look), 2, api.ErrBytes)
		wantError(t, numbers(2, r, look, 3, r, look), 5, api.ErrBytes)
		wantError(t, numbers(1, r, look, 1, r, look, 1, 'z', 0), 3, api.ErrBytes)
		wantError(t, numbers(1, 'z', 0, 1, r, look, 1, r, look), 3, api.ErrBytes)
		// Of the run ahead alone, not of those ahead of it.
		wantRead(t, numbers(1, r, look, 1, 'z', 0, 1, r, look), 3, []api.Cell{c, letter('z'), c}, 2*len(numbers(1, r, look))+3, api.OK)
		for _, other := range someCells() {
			b := numbers(1, r, look, 1, uint64(other.R), 4*uint64(other.Attr)+uint64(other.Half))
			if other == c {
				wantError(t, b, 2, api.ErrBytes)
			} else {
				wantRead(t, b, 2, []api.Cell{c, other}, len(b), api.OK)
			}
		}
	}
	// The first run has none ahead of it, not even one of a cell without anything.
	wantRead(t, "\x01\x00\x02", 1, []api.Cell{cell(0, 0, 2)}, 3, api.OK)
	wantError(t, "\x01\x00\x00", 1, api.ErrBytes)
}

func TestReadErrorsInTheirOrder(t *testing.T) {
	cases := []struct {
		b     string
		n     int
		errno api.Errno
	}{
		// A run's numbers' errors are ahead of what else is wrong with it: none, too many, no such cell, the same cell.
		{"\x00", 1, api.ErrShort},
		{"\x00a", 1, api.ErrShort},
		{"\x02", 1, api.ErrShort},
		{"\x02a", 1, api.ErrShort},
		{"\x02a\x80", 1, api.ErrShort},
		{"\x01\x00", 1, api.ErrShort},
		{"\x01\x80\xb0\x03", 1, api.ErrShort},
		{"\x00" + number(math.MaxUint64), 1, api.ErrShort},
		{number(math.MaxUint64) + "\x00\x80", 1, api.ErrShort},
		{"\x01a\x00\x01a", 2, api.ErrShort},
		{"\x01a\x00\x01a\x80", 2, api.ErrShort},
		{"\x01a\x00\x02", 2, api.ErrShort},
		{"\x01a\x00\x00", 2, api.ErrShort},
		// Of its numbers the first one's.
		{tooLong, 1, api.ErrBytes},
		{longForm, 1, api.ErrBytes},
		{"\x01" + tooLong, 1, api.ErrBytes},
		{"\x01" + longForm + "\x80", 1, api.ErrBytes},
		{longForm + "\x80", 1, api.ErrBytes},
		// The run ahead tells, whatever is wrong with those behind it.
		{"\x00a\x00\x80", 1, api.ErrBytes},
		{"\x00a\x00", 9, api.ErrBytes},
		{"\x02a\x00\x80", 1, api.ErrBytes},
		{"\x01\x00\x00\x01", 2, api.ErrBytes},
		{"\x01a\x03\x01", 2, api.ErrBytes},
		{"\x01a\x00\x01a\x00\x01", 3, api.ErrBytes},
		{"\x01a\x00\x03b\x00\x01", 3, api.ErrBytes},
		{"\x01a\x00\x01b\x00\x80", 3, api.ErrShort},
		{"\x01a\x00\x01b\x00", 3, api.ErrShort},
		{"\x01a\x00\x01b\x00" + longForm, 3, api.ErrBytes},
		{"\x01a\x00\x01b\x00" + longForm, 2, api.OK},
	}
	for _, c := range cases {
		if _, _, errno := Read([]byte(c.b), c.n); errno != c.errno {
			t.Errorf("Read(%x, %d): %d; want %d", c.b, c.n, errno, c.errno)
		}
		if c.errno != api.OK {
			wantError(t, c.b, c.n, c.errno)
		}
	}
}

// TestReadShortBytes: two bytes of all and a third, and six of few.
func TestReadShortBytes(t *testing.T) {
	few := "\x00\x01\x02\x03a\x80"
	for first := range 256 {
		for second := range 256 {
			b := []byte{byte(first), byte(second), 0}
			for size := range len(b) + 1 {
				wantAsPromised(t, b[:size], 1)
				wantAsPromised(t, b[:size], 2)
			}
		}
	}
	for i := range 6 * 6 * 6 * 6 * 6 * 6 {
		b := make([]byte, 6)
		for k := range b {
			b[k] = few[i%len(few)]
			i /= len(few)
		}
		for n := range 5 {
			wantAsPromised(t, b, n)
		}
	}
}

func TestReadAnyBytes(t *testing.T) {
	r := rand.New(rand.NewSource(3))
	for range 100000 {
		var b []byte
		n := r.Intn(6) - 1
		for range r.Intn(5) {
			count := 1 + r.Intn(3)
			c := someCells()[r.Intn(12)]
			n += count
			b = append(b, numbers(uint64(count), uint64(c.R), 4*uint64(c.Attr)+uint64(c.Half))...)
			switch r.Intn(8) {
			case 0:
				b[r.Intn(len(b))] = byte(r.Intn(256))
			case 1:
				b = append(b, number(r.Uint64()>>r.Intn(64))...)
			case 2:
				b = b[:r.Intn(len(b)+1)]
			}
		}
		wantAsPromised(t, b, n)
		if t.Failed() {
			return
		}
	}
}

func FuzzRead(f *testing.F) {
	f.Add([]byte("\x03a\x00\x01b\x04\x02\x00\x02"), 6)
	f.Add([]byte("\x01\xa2\xde\x01\x41\x01\x00\x42"), 2)
	f.Add([]byte(tooLong), 1)
	f.Fuzz(func(t *testing.T, b []byte, n int) {
		wantAsPromised(t, b, min(n, 1<<20))
	})
}

// P6.2

func TestBlankRow(t *testing.T) {
	// The chapter's example: three numbers.
	wantPut(t, slices.Repeat([]api.Cell{letter(' ')}, 80), "\x50\x20\x00")
	// As wide as a row can be: not a run more.
	wantPut(t, slices.Repeat([]api.Cell{letter(' ')}, api.MaxSize), "\xe8\x07\x20\x00")
}

// TestMostlyBlankRow: a word in a row costs as much in a wide row as in a narrow one, but for the count.
func TestMostlyBlankRow(t *testing.T) {
	row := func(cols int) []api.Cell {
		l := slices.Repeat([]api.Cell{letter(' ')}, cols)
		copy(l, []api.Cell{cell('$', 1, 0), letter(' '), letter('l'), letter('s')})
		return l
	}
	word := "\x01$\x04\x01 \x00\x01l\x00\x01s\x00"
	wantPut(t, row(4), word)
	wantPut(t, row(5), word+"\x01 \x00")
	wantPut(t, row(80), word+"\x4c \x00")
	wantPut(t, row(1000), word+"\xe4\x07 \x00")
	if b, _ := Put(slices.Repeat(row(80), 24)); string(b) != strings.Repeat(word+"\x4c \x00", 24) {
		t.Errorf("24 rows: %x", b)
	}
}

// What holds everywhere

func TestHandedInIsNeitherChangedNorKept(t *testing.T) {
	cells := []api.Cell{letter('a'), letter('a'), letter('b'), letter('c'), letter('d')}
	cellsBefore := slices.Clone(cells)
	room := []byte("\x02a\x00\x01b\x00spare room")
	roomBefore := bytes.Clone(room)

	b, _ := Put(cells[:3])
	l, _, _ := Read(room[:6], 3)
	if string(b) != "\x02a\x00\x01b\x00" || !slices.Equal(l, cells[:3]) {
		t.Fatalf("Put, Read: %x, %v", b, l)
	}
	clear(b)
	clear(l)
	_ = append(b, "more"...)
	_ = append(l, letter('z'))
	if !slices.Equal(cells, cellsBefore) || !bytes.Equal(room, roomBefore) {
		t.Errorf("what was handed in is now %v, %q", cells, room)
	}
	Put(append(cells[:3:3], cell(0, 0, 0)))
	Read(room, 9)
	if !slices.Equal(cells, cellsBefore) || !bytes.Equal(room, roomBefore) {
		t.Errorf("what was handed in is now %v, %q, beside an error", cells, room)
	}

	b, _ = Put(cells[:3])
	l, _, _ = Read(room[:6], 3)
	clear(cells)
	clear(room)
	if string(b) != "\x02a\x00\x01b\x00" || !slices.Equal(l, cellsBefore[:3]) {
		t.Errorf("what was answered is now %x, %v", b, l)
	}
}

func TestSameAgain(t *testing.T) {
	l := []api.Cell{letter('a'), letter('a'), cell('b', 7, 0)}
	for range 20 {
		b, _ := Put(l)
		other, errno := Put(l)
		back, _, _ := Read(other, 3)
		otherBack, size, readErrno := Read(other, 3)
		// Two answers share no memory, and wrong calls leave nothing behind.
		clear(b)
		clear(back)
		Put([]api.Cell{{}})
		Read([]byte("\x01z\x00"), 2)
		if string(other) != "\x02a\x00\x01b\x1c" || errno != api.OK {
			t.Fatalf("Put the next time: %x, %d", other, errno)
		}
		if !slices.Equal(otherBack, l) || size != 6 || readErrno != api.OK {
			t.Fatalf("Read the next time: %v, %d, %d", otherBack, size, readErrno)
		}
	}
}

package snap

import (
	"math"
	"math/rand"
	"strings"
	"testing"

	"reprise/api"
	"reprise/screen"
)

// P10.1: Read of what no screen has

// small: screens of few bytes, of which each part is there in one of them at least.
func small() []api.Screen {
	return []api.Screen{
		full(), behind(1, 1, ""), behind(1, 1, "a"), behind(2, 1, "ab\x1b7"), behind(1, 2, "\u6f22"), behind(2, 2, "\x1b[31ma\x1b[?1049hb"), behind(3, 2, "\x1b[2;3r\x1b[3;2H\x1b7\x1b[m"),
		behind(1, 9, "\tx"), behind(2, 3, "\x1b[?25l\x1b[?7l\x1b[>1;300;65535"), behind(1, 1, "\x1b[;;;;;;;;;;;;;;;"), behind(1, 1, "\x1b[! "), behind(1, 1, "\x1b# "), behind(1, 2, "\xf0\x9f\x98"), behind(1, 2, "\xc3"), behind(130, 1, "\x1b[129;130r"),
	}
}

func TestReadNothing(t *testing.T) {
	wantRefused(t, "")
	if s, errno := Read(nil); errno != api.ErrBytes || !alike(s, api.Screen{}) {
		t.Errorf("Read(nil): %d", errno)
	}
	for c := range 256 {
		for n := range 40 {
			wantRefused(t, strings.Repeat(string([]byte{byte(c)}), n), "the same byte")
		}
	}
}

// TestReadCut: cut anywhere there is no screen, nor with more behind it.
func TestReadCut(t *testing.T) {
	for _, s := range some() {
		b := wantedPut(s)
		for k := range b {
			wantRefused(t, b[:k], "cut at", k)
		}
		for _, more := range []string{"\x00", "\x01", "\x80", "\xff", "\x00\x00", b} {
			wantRefused(t, b+more, "more behind it")
		}
		wantRefused(t, b[1:], "without the first byte")
	}
}

// TestReadOneByte: with one byte another one, anywhere, it is the screen that has these bytes, or there is none.
func TestReadOneByte(t *testing.T) {
	for _, s := range small() {
		was := wantedPut(s)
		for k := range was {
			b := []byte(was)
			for c := range 256 {
				b[k] = byte(c)
				wantAsPromised(t, b)
			}
			for _, more := range []string{"\x00", "\x01", "\x80", "\xff"} {
				wantAsPromised(t, []byte(was[:k]+more+was[k:]))
			}
			wantAsPromised(t, []byte(was[:k]+was[k+1:]))
		}
	}
}

// TestReadAnyBytes: some bytes of a screen's are others, are more, are gone.
func TestReadAnyBytes(t *testing.T) {
	r := rand.New(rand.NewSource(3))
	found := 0
	for range 30000 {
		b := []byte(wantedPut(small()[r.Intn(len(small()))]))
		for range 1 + r.Intn(3) {
			k := r.Intn(len(b))
			switch r.Intn(4) {
			case 0:
				b[k] = byte(r.Intn(256))
			case 1:
				b[k] += byte(r.Intn(3) - 1)
			case 2:
				b = append(b[:k], append([]byte(number(r.Uint64()>>r.Intn(64))), b[k:]...)...)
			case 3:
				b = append(b[:k], b[k+1:]...)
			}
			if len(b) == 0 {
				break
			}
		}
		wantAsPromised(t, b)
		if _, errno := Read(b); errno == api.OK {
			found++
		}
	}
	if found < 1000 {
		t.Errorf("of these bytes only %d were a screen's", found)
	}
}

// TestReadLongForms: no number, no tab has a longer form.
func TestReadLongForms(t *testing.T) {
	for _, s := range small() {
		b := wantedPut(s)
		for k := range b {
			wantRefused(t, b[:k]+string([]byte{b[k] | 0x80, 0})+b[k+1:], "a longer form at", k)
			wantRefused(t, b[:k]+string([]byte{b[k] | 0x80, 0x80, 0})+b[k+1:], "a longer form at", k)
		}
	}
}

// parts: a screen's numbers, those of runs too, each as it is; lists of bytes behind them.
func parts() []uint64 {
	return []uint64{2, 3, 1, 2, 15, 0x521, 0, 1, 1, 2, 0x21, 1, 0, 1, 5, ' ', 0, 1, 'z', 4, 1, 0, 6, ' ', 0, 5, '?', 2, 7, 300, 1, '!', 0}
}

func together(l []uint64) string {
	out := ""
	for _, n := range l {
		out += number(n)
	}
	return out
}

// TestReadGreatNumbers: a number that would be right if it were cut to its field's bits, and one that is just too great.
func TestReadGreatNumbers(t *testing.T) {
	s, errno := Read([]byte(together(parts())))
	if errno != api.OK || s.OtherY != 1 || s.P.Params[1] != 300 || s.Cells[5].R != 'z' || !s.Wrap || !s.Auto || !s.Shown {
		t.Fatalf("the parts are no screen: %+v, %d", s, errno)
	}
	wantRight(t, s)
	// May be as great as these: looks up to 12 bits, params up to 16, runes up to 21.
	bits := map[int]int{5: 12, 10: 12, 16: 14, 19: 14, 24: 14, 28: 16, 29: 16, 15: 21, 18: 21, 23: 21}
	for i, n := range parts() {
		great := []uint64{1001, math.MaxUint64, math.MaxUint64 - n, math.MaxInt64}
		for shift := 8; shift < 64; shift++ {
			great = append(great, n+1<<shift)
		}
		for _, g := range great {
			l := parts()
			l[i] = g
			if g>>bits[i] == 0 {
				wantAsPromised(t, []byte(together(l)))
			} else {
				wantRefused(t, together(l), "part", i, g)
			}
		}
	}
}

// TestReadEdges: each number at its greatest and one past it.
func TestReadEdges(t *testing.T) {
	for _, x := range []struct {
		part      int
		last, one uint64
	}{
		{2, 1, 2}, {5, 0x887, 0x888}, {5, 0x807, 0x808}, {5, 0x787, 0x797}, {8, 1, 2}, {9, 2, 3}, {10, 0x887, 0x987}, {10, 7, 8},
		{11, 1, 2}, {12, 1, 2}, {13, 1, 2}, {15, 0xd7ff, 0xd800}, {15, 0x10ffff, 0x110000}, {16, 4 * 0x887, 4 * 0x888}, {19, 4 * 0x887, 4 * 0x888},
		{20, 1, 2}, {21, 2, 3}, {22, 6, 7}, {26, 0x3f, 0x40}, {28, 65535, 65536}, {29, 65535, 65536}, {31, 0x2f, 0x30},
	} {
		l := parts()
		l[x.part] = x.last
		s, errno := Read([]byte(together(l)))
		if errno != api.OK {
			t.Errorf("part %d of %d: %d", x.part, x.last, errno)
			continue
		}
		wantRight(t, s)
		l[x.part] = x.one
		wantRefused(t, together(l), "part", x.part, x.one)
	}
	for _, x := range []struct {
		part int
		n    uint64
	}{{0, 0}, {0, 1}, {0, 3}, {0, 1000}, {1, 0}, {1, 2}, {1, 4}, {3, 0}, {3, 1}, {3, 3}, {4, 7}, {4, 16}, {6, 1}, {6, 2}, {7, 0}, {7, 2}, {14, 0}, {14, 4}, {14, 6}, {15, 0}, {16, 1}, {16, 2}, {16, 3}, {17, 0}, {17, 2}, {17, 3}, {19, 5}, {19, 6}, {22, 0}, {22, 5}, {25, 0}, {25, 1}, {25, 2}, {25, 3}, {25, 4}, {25, 6}, {25, 7}, {25, 8}, {26, 0x3b}, {27, 0}, {27, 1}, {27, 3}, {30, 0}, {30, 2}, {31, 0x1f}, {32, 1}} {
		l := parts()
		l[x.part] = x.n
		wantRefused(t, together(l), "part", x.part, x.n)
	}
}

// TestReadCells: of another count than the screen has; runs that aren't as long as they are.
func TestReadCells(t *testing.T) {
	head, alt, tail := "\x02\x02\x00\x00\x06\x00\x00\x01\x00\x00\x00\x01\x00", "\x02\x02\x00\x00\x0e\x00\x00\x01\x00\x00\x00\x01\x00", "\x00\x00\x00\x00\x00"
	for _, cells := range []string{"\x04 \x00", "\x02a\x00\x02 \x00", "\x01a\x00\x01b\x00\x01a\x00\x01b\x00", "\x01\xa2\xde\x01\x01\x01\x00\x02\x02 \x00", "\x02 \x00\x01a\x01\x01\x00\x02"} {
		for _, b := range []string{head + cells + tail, alt + cells + "\x01\x01\x04 \x00" + tail, alt + "\x04 \x00\x01\x01" + cells + tail} {
			s, errno := Read([]byte(b))
			if errno != api.OK {
				t.Errorf("Read(%x): %d", b, errno)
				continue
			}
			wantBytes(t, s, b)
		}
	}
	for _, cells := range []string{
		"", "\x03 \x00", "\x05 \x00", "\x02 \x00\x02 \x00", "\x04 \x00\x04 \x00", "\x00 \x00\x04 \x00", "\x04 \x00\x00 \x00", "\x01a\x00\x04 \x00", "\x04\x00\x00", "\x04a\x03", "\x04 \x20",
		// Halves that aren't whole, of one row and of two.
		"\x01a\x01\x03 \x00", "\x01\x00\x02\x03 \x00", "\x03 \x00\x01a\x01", "\x04a\x01", "\x04\x00\x02", "\x01 \x00\x01a\x01\x01\x00\x02\x01 \x00", "\x01a\x01\x02\x00\x02\x01 \x00", "\x02a\x01\x02\x00\x02",
	} {
		wantRefused(t, head+cells+tail, "cells")
		wantRefused(t, alt+cells+"\x01\x01\x04 \x00"+tail, "cells with others")
		wantRefused(t, alt+"\x04 \x00\x01\x01"+cells+tail, "other cells")
	}
	// The other cells are there just if it is Alt.
	wantRefused(t, head+"\x04 \x00\x01\x01\x04 \x00"+tail, "others, not Alt")
	wantRefused(t, alt+"\x04 \x00"+tail, "Alt, no others")
	wantRefused(t, alt+"\x04 \x00\x02\x01\x04 \x00"+tail, "others' row")
	wantRefused(t, alt+"\x04 \x00\x01\x02\x04 \x00"+tail, "others' column")
}

func TestReadTabs(t *testing.T) {
	for c := range 256 {
		for x := range 3 {
			tabs := []byte{1, 0, 0}
			tabs[x] = byte(c)
			b := "\x01\x03\x00\x00\x06\x00\x00\x00\x00\x00\x00" + string(tabs) + "\x03 \x00\x00\x00\x00\x00\x00"
			if c > 1 {
				wantRefused(t, b, "a tab of", c)
				continue
			}
			s, errno := Read([]byte(b))
			if errno != api.OK || s.Tabs[x] != (c == 1) {
				t.Fatalf("a tab of %d: %v, %d", c, s.Tabs, errno)
			}
			wantBytes(t, s, b)
		}
	}
}

// TestReadGreatSizes: few bytes that speak of many cells, of more than there may be.
func TestReadGreatSizes(t *testing.T) {
	for _, rows := range []uint64{0, 1, 999, 1000, 1001, 1 << 16, 1 << 31, 1 << 32, 1<<32 + 1, 1 << 63, math.MaxUint64} {
		for _, cols := range []uint64{0, 1, 3, 1000, 1001, 1 << 32, 1 << 33, 1 << 63, math.MaxUint64} {
			tabs := int(min(cols, 2000))
			bottom := uint64(max(int(min(rows, 2000)), 1) - 1)
			b := together([]uint64{rows, cols, 0, 0, 6, 0, 0, bottom, 0, 0, 0}) + strings.Repeat("\x00", tabs) + together([]uint64{rows * cols, ' ', 0}) + "\x00\x00\x00\x00\x00"
			s, errno := Read([]byte(b))
			if rows < 1 || rows > 1000 || cols < 1 || cols > 1000 {
				wantRefused(t, b, rows, "rows of", cols)
				continue
			}
			if errno != api.OK || !screen.Right(s) || s.Rows != int(rows) || s.Cols != int(cols) || len(s.Cells) != int(rows*cols) {
				t.Errorf("%d rows of %d: %d, %d cells", rows, cols, errno, len(s.Cells))
			}
		}
	}
}

// TestReadParser: parsers that can't be, in each mode.
func TestReadParser(t *testing.T) {
	head := "\x01\x01\x00\x00\x06\x00\x00\x00\x00\x00\x00\x01\x01 \x00"
	for mode := range 10 {
		for _, private := range []string{"\x00", "\x01", ";", "<", "=", ">", "?", "@", "\x7f", "\xff\x01", "\x80\x02", "\xbf\x02"} {
			for _, params := range []string{"\x00", "\x01\x00", "\x02\x07\xff\xff\x03", "\x01\x80\x80\x04"} {
				for _, inter := range []string{"\x00", "\x01 ", "\x01\x1f", "\x01/", "\x010", "\x02!#", "\x02!0", "\x03!!!", "\x01\x80"} {
					for _, utf := range []string{"\x00", "\x01\xc3", "\x02\xe6\xbc", "\x03\xf0\x9f\x98", "\x01a", "\x01\x80", "\x02\xc3\xa9", "\x03\xe6\xbc\xa2", "\x02\xe6a"} {
						wantAsPromised(t, []byte(head+string(rune(mode))+private+params+inter+utf))
					}
				}
			}
		}
	}
	for _, list := range []string{"\x80", "\xff\xff\xff\xff\xff\xff\xff\xff\xff\x01", "\xff\xff\xff\xff\xff\xff\xff\xff\xff\x02", "\xff\xff\xff\xff\x0f", "\x7f"} {
		wantRefused(t, head+"\x05\x00\x00"+list+"\x00", "so many bytes of Inter")
		wantRefused(t, head+"\x00\x00\x00\x00"+list, "so many bytes of Utf")
	}
}

func FuzzRead(f *testing.F) {
	for _, s := range small() {
		f.Add([]byte(wantedPut(s)))
	}
	f.Add([]byte(together(parts())))
	f.Fuzz(wantAsPromised)
}

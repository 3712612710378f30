package width

import (
	"math"
	"math/rand"
	"slices"
	"testing"
	"unicode/utf8"
)

// bounds: the first and the last number of runes that have the same cells.
type bounds struct{ first, last rune }

// ranges0, ranges2: the chapter's ranges, in its order.
func ranges0() []bounds {
	return []bounds{{math.MinInt32, 0x1f}, {0x7f, 0x9f}, {0x300, 0x36f}, {0x200b, 0x200f}, {0xfe00, 0xfe0f}, {0xd800, 0xdfff}, {0x110000, math.MaxInt32}}
}

func ranges2() []bounds {
	return []bounds{
		{0x1100, 0x115f}, {0x2e80, 0x303e}, {0x3041, 0x33ff}, {0x3400, 0x4dbf}, {0x4e00, 0x9fff}, {0xa000, 0xa4cf}, {0xac00, 0xd7a3}, {0xf900, 0xfaff},
		{0xfe30, 0xfe6f}, {0xff00, 0xff60}, {0xffe0, 0xffe6}, {0x1f300, 0x1f64f}, {0x1f900, 0x1f9ff}, {0x20000, 0x2fffd}, {0x30000, 0x3fffd},
	}
}

func within(r rune, ranges []bounds) bool {
	for _, b := range ranges {
		if b.first <= r && r <= b.last {
			return true
		}
	}
	return false
}

// wantedOf: the promise word by word, range after range.
func wantedOf(r rune) int {
	switch {
	case within(r, ranges0()):
		return 0
	case within(r, ranges2()):
		return 2
	}
	return 1
}

func wantedText(l []rune) int {
	n := 0
	for _, r := range l {
		n += wantedOf(r)
	}
	return n
}

// wantedCut: the greatest of all numbers of runes, each one tried.
func wantedCut(l []rune, n int) int {
	most := 0
	for k := range len(l) + 1 {
		if wantedText(l[:k]) <= n {
			most = k
		}
	}
	return most
}

func wantOf(t *testing.T, r rune, want int) {
	t.Helper()
	if got := Of(r); got != want {
		t.Errorf("Of(%x): %d; want %d", r, got, want)
	}
}

func wantText(t *testing.T, l []rune, want int) {
	t.Helper()
	if got := Text(l); got != want {
		t.Errorf("Text(%x): %d; want %d", l, got, want)
	}
}

func wantCut(t *testing.T, l []rune, n, want int) {
	t.Helper()
	if got := Cut(l, n); got != want {
		t.Errorf("Cut(%x, %d): %d; want %d", l, n, got, want)
	}
}

// mixedRunes: of no cell, one and two, and numbers that are no rune.
func mixedRunes(r *rand.Rand, most int) []rune {
	ranges := append(ranges0(), ranges2()...)
	out := []rune{}
	for range r.Intn(most + 1) {
		b := ranges[r.Intn(len(ranges))]
		switch r.Intn(5) {
		case 0:
			out = append(out, b.first)
		case 1:
			out = append(out, b.last)
		case 2:
			out = append(out, rune(r.Uint32()))
		case 3:
			out = append(out, rune(r.Intn(utf8.MaxRune+1)))
		default:
			out = append(out, rune(' '+r.Intn(95)))
		}
	}
	return out
}

// P4.1

func TestOfKnown(t *testing.T) {
	for _, r := range []rune{0, '\t', '\n', 0x1b, 0x1f, 0x7f, 0x85, 0x301, 0x200b, 0x200d, 0xfe0f} {
		wantOf(t, r, 0)
	}
	for _, r := range []rune{' ', 'a', '~', 0xa0, 0xe9, 0x20ac, 0x2500, 0xff71, 0xfffd, 0xffff, 0x10000, 0x1f680, 0xe000, 0x10ffff} {
		wantOf(t, r, 1)
	}
	for _, r := range []rune{0x6f22, 0x1100, 0x3042, 0x30ab, 0xac00, 0xff21, 0xffe5, 0x1f600, 0x1f914, 0x20000, 0x30000} {
		wantOf(t, r, 2)
	}
	wantOf(t, '漢', 2)
}

func TestOfBesideEachBound(t *testing.T) {
	cases := []struct {
		bounds
		cells, ahead, behind int
	}{
		{bounds{0, 0x1f}, 0, 0, 1},
		{bounds{0x7f, 0x9f}, 0, 1, 1},
		{bounds{0x300, 0x36f}, 0, 1, 1},
		{bounds{0x200b, 0x200f}, 0, 1, 1},
		{bounds{0xfe00, 0xfe0f}, 0, 1, 1},
		{bounds{0xd800, 0xdfff}, 0, 1, 1},
		{bounds{0x1100, 0x115f}, 2, 1, 1},
		{bounds{0x2e80, 0x303e}, 2, 1, 1},
		{bounds{0x3041, 0x33ff}, 2, 1, 2},
		{bounds{0x3400, 0x4dbf}, 2, 2, 1},
		{bounds{0x4e00, 0x9fff}, 2, 1, 2},
		{bounds{0xa000, 0xa4cf}, 2, 2, 1},
		{bounds{0xac00, 0xd7a3}, 2, 1, 1},
		{bounds{0xf900, 0xfaff}, 2, 1, 1},
		{bounds{0xfe30, 0xfe6f}, 2, 1, 1},
		{bounds{0xff00, 0xff60}, 2, 1, 1},
		{bounds{0xffe0, 0xffe6}, 2, 1, 1},
		{bounds{0x1f300, 0x1f64f}, 2, 1, 1},
		{bounds{0x1f900, 0x1f9ff}, 2, 1, 1},
		{bounds{0x20000, 0x2fffd}, 2, 1, 1},
		{bounds{0x30000, 0x3fffd}, 2, 1, 1},
	}
	for _, c := range cases {
		wantOf(t, c.first-1, c.ahead)
		wantOf(t, c.first, c.cells)
		wantOf(t, c.first+1, c.cells)
		wantOf(t, c.last-1, c.cells)
		wantOf(t, c.last, c.cells)
		wantOf(t, c.last+1, c.behind)
	}
}

func TestOfWhatIsNoRune(t *testing.T) {
	for _, r := range []rune{
		-1, -2, -0x20, -0x6f22, -0x110000, math.MinInt32, math.MinInt32 + 1,
		0xd800, 0xd801, 0xdbff, 0xdc00, 0xdffe, 0xdfff,
		0x110000, 0x110001, 0x1fffff, 0x200000, math.MaxInt32 - 1, math.MaxInt32,
	} {
		wantOf(t, r, 0)
	}
}

func TestOfBesideWhatIsNoRune(t *testing.T) {
	wantOf(t, 0, 0)
	wantOf(t, 0xd7ff, 1)
	wantOf(t, 0xe000, 1)
	wantOf(t, 0xfffc, 1)
	wantOf(t, 0xfffd, 1)
	wantOf(t, 0xfffe, 1)
	wantOf(t, 0x10ffff, 1)
}

func TestOfEachRune(t *testing.T) {
	for r := rune(-0x1000); r <= 0x111000; r++ {
		wantOf(t, r, wantedOf(r))
		if t.Failed() {
			return
		}
	}
	random := rand.New(rand.NewSource(1))
	for range 200000 {
		r := rune(random.Uint32())
		wantOf(t, r, wantedOf(r))
	}
}

// TestCountsOfCells: how many runes have no cell, one and two, as the chapter's ranges add up.
func TestCountsOfCells(t *testing.T) {
	var want [3]int
	for _, b := range ranges2() {
		want[2] += int(b.last-b.first) + 1
	}
	want[0] = 0x20 + 0x21 + 0x70 + 5 + 16 + 0x800
	want[1] = 0x110000 - want[0] - want[2]
	var got [3]int
	for r := rune(0); r <= utf8.MaxRune; r++ {
		got[Of(r)]++
	}
	if got != want {
		t.Errorf("runes of no cell, one and two: %v; want %v", got, want)
	}
}

// TestSpansAreInOrder: looking through them by halves hangs on it.
func TestSpansAreInOrder(t *testing.T) {
	before := rune(-1)
	for _, s := range spans {
		if s.first <= before || s.last < s.first {
			t.Errorf("%x to %x stands behind %x", s.first, s.last, before)
		}
		if s.cells != 0 && s.cells != 2 {
			t.Errorf("%x to %x: %d cells", s.first, s.last, s.cells)
		}
		before = s.last
	}
}

func TestTextKnown(t *testing.T) {
	wantText(t, nil, 0)
	wantText(t, []rune{}, 0)
	wantText(t, []rune{'a'}, 1)
	wantText(t, []rune{0x6f22}, 2)
	wantText(t, []rune{0x301}, 0)
	wantText(t, []rune("reprise"), 7)
	wantText(t, []rune("a\u6f22e\u0301b\u5b57\u200b"), 7)
	wantText(t, []rune{0, '\n', 0x7f, 0x301, 0xfe0f}, 0)
	wantText(t, []rune{-1, 0xd800, 0x110000, math.MinInt32, math.MaxInt32}, 0)
	wantText(t, []rune{-1, 'a', 0xdfff, 0x6f22, 0x110000}, 3)
}

func TestTextIsAllTogether(t *testing.T) {
	r := rand.New(rand.NewSource(2))
	for range 20000 {
		l := mixedRunes(r, 30)
		wantText(t, l, wantedText(l))
		at := r.Intn(len(l) + 1)
		if Text(l[:at])+Text(l[at:]) != Text(l) {
			t.Fatalf("%x parted at %d has other cells", l, at)
		}
	}
}

func TestOfMany(t *testing.T) {
	wide := slices.Repeat([]rune{0x6f22}, 300000)
	wantedWhole := 2 * len(wide)
	if got := Text(wide); got != wantedWhole {
		t.Errorf("Text of %d wide runes: %d", len(wide), got)
	}
	for _, n := range []int{0, 1, 2, 3, wantedWhole - 1, wantedWhole, wantedWhole + 1} {
		if got, want := Cut(wide, n), min(n/2, len(wide)); got != want {
			t.Errorf("Cut of %d wide runes at %d: %d; want %d", len(wide), n, got, want)
		}
	}
	empty := make([]rune, 300000)
	if got := Text(empty); got != 0 {
		t.Errorf("Text of runes of no cells: %d", got)
	}
	if got := Cut(empty, 0); got != len(empty) {
		t.Errorf("Cut of runes of no cells at 0: %d", got)
	}
}

func TestCutKnown(t *testing.T) {
	// 1, 2, 0, 1, 2 and 0 cells: 6 in all.
	l := []rune("a\u6f22\u0301b\u5b57\u200b")
	for n, want := range map[int]int{
		math.MinInt: 0, math.MinInt + 1: 0, -2: 0, -1: 0, 0: 0,
		1: 1, 2: 1, 3: 3, 4: 4,
		5: 4, 6: 6, 7: 6, math.MaxInt - 1: 6, math.MaxInt: 6,
	} {
		wantCut(t, l, n, want)
	}
}

func TestCutOfNoRunes(t *testing.T) {
	for _, n := range []int{math.MinInt, -1, 0, 1, math.MaxInt} {
		wantCut(t, nil, n, 0)
		wantCut(t, []rune{}, n, 0)
	}
}

func TestCutWhereAWideRuneDoesNotFit(t *testing.T) {
	wantCut(t, []rune{0x6f22}, 0, 0)
	wantCut(t, []rune{0x6f22}, 1, 0)
	wantCut(t, []rune{0x6f22}, 2, 1)
	wantCut(t, []rune{'a', 0x6f22, 'b'}, 1, 1)
	wantCut(t, []rune{'a', 0x6f22, 'b'}, 2, 1)
	wantCut(t, []rune{'a', 0x6f22, 'b'}, 3, 2)
	// What is behind one that doesn't fit has no room either, however small it is.
	wantCut(t, []rune{0x6f22, 'a', 0x301}, 1, 0)
	wantCut(t, []rune{'a', 0x6f22, 0x301, 0}, 2, 1)
}

func TestCutAtRunesOfNoCells(t *testing.T) {
	accents := []rune{0x301, 0x200b, 0xfe0f}
	for _, n := range []int{0, 1, math.MaxInt} {
		wantCut(t, accents, n, 3)
	}
	wantCut(t, accents, -1, 0)
	wantCut(t, accents, math.MinInt, 0)
	wantCut(t, []rune{0x301, 0x301, 'a'}, 0, 2)
	wantCut(t, []rune{'a', 0x301, 0x302, 'b'}, 1, 3)
	wantCut(t, []rune{'a', 0x301, 0x302, 'b'}, 0, 0)
	wantCut(t, []rune{'a', 0x301, 0x302}, 1, 3)
	wantCut(t, []rune{'a', -1, 0xd800, 0x110000, 'b'}, 1, 4)
}

func TestCutIsTheGreatest(t *testing.T) {
	r := rand.New(rand.NewSource(3))
	for range 3000 {
		l := mixedRunes(r, 20)
		whole := wantedText(l)
		for n := -2; n <= whole+2; n++ {
			wantCut(t, l, n, wantedCut(l, n))
		}
		wantCut(t, l, math.MinInt, 0)
		wantCut(t, l, math.MaxInt, len(l))
		if t.Failed() {
			return
		}
	}
}

// P4.2

func TestSomeRunesAreWide(t *testing.T) {
	for _, b := range ranges2() {
		for _, r := range []rune{b.first, b.first + (b.last-b.first)/2, b.last} {
			wantOf(t, r, 2)
			wantText(t, []rune{r, 'a', r}, 5)
			wantCut(t, []rune{r, r}, 3, 1)
		}
	}
	wide := []rune("\u6f22\u5b57")
	if Text(wide) <= len(wide) {
		t.Errorf("Text(%x): %d", wide, Text(wide))
	}
}

func FuzzCut(f *testing.F) {
	f.Add("a\u6f22\u0301b\u5b57\u200b", 3)
	f.Add("", -1)
	f.Add("\u0301\u0301a", 0)
	f.Fuzz(func(t *testing.T, text string, n int) {
		l := []rune(text)
		wantText(t, l, wantedText(l))
		wantCut(t, l, n, wantedCut(l, n))
	})
}

// What holds everywhere.

func TestNothingHandedInIsChanged(t *testing.T) {
	room := []rune("a\u6f22\u0301b spare room")
	before := slices.Clone(room)
	given := room[:4]
	for n := -1; n < 6; n++ {
		Text(given)
		Cut(given, n)
	}
	if !slices.Equal(room, before) {
		t.Errorf("what was handed in is now %x", room)
	}
}

func TestSameAgain(t *testing.T) {
	l := []rune("a\u6f22\u0301b")
	text, cut := Text(l), Cut(l, 3)
	Text([]rune{0x6f22, 0x6f22})
	Cut([]rune{0x6f22}, -1)
	if Text(l) != text || Cut(l, 3) != cut {
		t.Error("another answer the second time")
	}
}

package line

import (
	"math"
	"math/rand"
	"slices"
	"strings"
	"testing"

	"reprise/api"
)

// P11.1: Right

func TestRightByHand(t *testing.T) {
	for i, x := range []struct {
		l  api.Line
		ok bool
	}{
		{api.Line{}, true},
		{api.Line{R: []rune{}}, true},
		{api.Line{At: -1}, false},
		{api.Line{At: 1}, false},
		{of("ab|"), true},
		{of("a|b"), true},
		{of("|ab"), true},
		{of("\u6f22|e\u0301"), true},
		{api.Line{R: []rune{'a', 'b'}, At: 3}, false},
		{api.Line{R: []rune{'a', 'b'}, At: -1}, false},
		{api.Line{R: []rune{'a', 'b'}, At: math.MinInt}, false},
		{api.Line{R: []rune{'a', 'b'}, At: math.MaxInt}, false},
		{api.Line{R: []rune{'a', 'b'}, At: 1 << 32}, false},
		// A place is one of runes, neither of bytes nor of cells.
		{api.Line{R: []rune{0x6f22}, At: 2}, false},
		{api.Line{R: []rune{0x6f22}, At: 1}, true},
		{api.Line{R: []rune{0, 0x10ffff}, At: 2}, true},
		{api.Line{R: []rune{0xd7ff, 0xe000}, At: 1}, true},
		{api.Line{R: []rune{0xd800}}, false},
		{api.Line{R: []rune{0xdfff}}, false},
		{api.Line{R: []rune{-1}}, false},
		{api.Line{R: []rune{0x110000}}, false},
	} {
		if got := Right(x.l); got != x.ok {
			t.Errorf("%d: Right(%s): %v", i, told(x.l), got)
		}
	}
}

// TestRightAllRunes: each number near to a rune, alone and at each place of a line.
func TestRightAllRunes(t *testing.T) {
	for r := rune(-300); r <= 0x110000+300; r++ {
		if Right(api.Line{R: []rune{r}}) != wantedRune(r) {
			t.Fatalf("Right of %x", r)
		}
	}
	for _, r := range append(noRunes(), edgeRunes()...) {
		for n := 1; n <= 5; n++ {
			for i := range n {
				l := api.Line{R: letters(n), At: n / 2}
				l.R[i] = r
				if Right(l) != wantedRune(r) {
					t.Errorf("Right of %x at %d of %d", r, i, n)
				}
			}
		}
	}
}

func TestRightAt(t *testing.T) {
	for n := range 8 {
		for _, at := range placesAround(n) {
			l := api.Line{R: letters(n), At: at}
			if Right(l) != wantedRight(l) {
				t.Errorf("Right of %d of %d: %v", at, n, !wantedRight(l))
			}
		}
	}
}

func TestRightMaxLine(t *testing.T) {
	for _, n := range []int{api.MaxLine - 1, api.MaxLine, api.MaxLine + 1, 2 * api.MaxLine} {
		for _, at := range []int{-1, 0, 1, n / 2, n - 1, n, n + 1} {
			// Wide runes are runes as others are: neither their bytes nor their cells count.
			for _, r := range []rune{'x', 0x6f22, 0x10ffff} {
				l := api.Line{R: slices.Repeat([]rune{r}, n), At: at}
				if want := n <= api.MaxLine && at >= 0 && at <= n; Right(l) != want {
					t.Errorf("Right of %d runes, At %d: %v", n, at, !want)
				}
			}
		}
		for _, i := range []int{0, n / 2, n - 1} {
			l := api.Line{R: letters(n)}
			l.R[i] = 0xd800
			if Right(l) {
				t.Errorf("Right of %d runes with a surrogate at %d", n, i)
			}
		}
	}
}

// P11.1: Insert

func TestInsertByHand(t *testing.T) {
	for _, x := range []struct{ l, t, want string }{
		{"|", "", "|"},
		{"|", "a", "a|"},
		{"|", "ab", "ab|"},
		{"|abcd", "xy", "xy|abcd"},
		{"a|bcd", "xy", "axy|bcd"},
		{"ab|cd", "xy", "abxy|cd"},
		{"abc|d", "xy", "abcxy|d"},
		{"abcd|", "xy", "abcdxy|"},
		{"ab|cd", "", "ab|cd"},
		{"abcd|", "", "abcd|"},
		{"\u6f22|\u5b57", "\u00e9", "\u6f22\u00e9|\u5b57"},
		{"a|b", "\u6f22\u0301", "a\u6f22\u0301|b"},
		{"a|b", "\x00\U0010ffff\ud7ff\ue000", "a\x00\U0010ffff\ud7ff\ue000|b"},
	} {
		got, ok := Insert(of(x.l), []rune(x.t))
		wantSaid(t, got, x.want, "Insert", x.l, x.t)
		if !ok {
			t.Errorf("Insert(%s, %q): false", x.l, x.t)
		}
	}
}

func TestInsertEverywhere(t *testing.T) {
	for _, l := range someLines() {
		for _, text := range someTexts() {
			wantInsert(t, l, text)
		}
	}
}

// TestInsertNoRune: what is no rune, at each place of what is put in; of runes next to them all goes in.
func TestInsertNoRune(t *testing.T) {
	for _, r := range append(noRunes(), edgeRunes()...) {
		for n := 1; n <= 4; n++ {
			for i := range n {
				text := letters(n)
				text[i] = r
				for _, l := range someLines() {
					wantInsert(t, l, text)
					wantPut(t, l, 0, 2, text)
				}
			}
		}
	}
	got, ok := Insert(of("a|b"), []rune{'x', 0xd800, 'y'})
	if wantSaid(t, got, "a|b"); ok {
		t.Error("Insert of a surrogate: true")
	}
	got, ok = Insert(of("a|b"), []rune{-1})
	if wantSaid(t, got, "a|b"); ok {
		t.Error("Insert of -1: true")
	}
}

func TestInsertMaxLine(t *testing.T) {
	for _, n := range []int{0, 1, api.MaxLine / 2, api.MaxLine - 2, api.MaxLine - 1, api.MaxLine} {
		for _, at := range []int{0, 1, n / 2, n - 1, n} {
			if at < 0 || at > n {
				continue
			}
			l := api.Line{R: letters(n), At: at}
			for _, more := range []int{0, 1, 2, 3, api.MaxLine - n - 1, api.MaxLine - n, api.MaxLine - n + 1, api.MaxLine, api.MaxLine + 1} {
				text := slices.Repeat([]rune{0x6f22}, max(more, 0))
				wantInsert(t, l, text)
				wantPut(t, l, at, at, text)
				if len(text) > 0 {
					text[len(text)-1] = 0x110000
					wantInsert(t, l, text)
				}
			}
		}
	}
}

// P11.1: Delete

func TestDeleteByHand(t *testing.T) {
	for _, x := range []struct {
		l          string
		from, to   int
		want, gone string
	}{
		{"|", 0, 0, "|", ""},
		{"|", -3, 3, "|", ""},
		{"|abcd", 1, 3, "|ad", "bc"},
		{"a|bcd", 1, 3, "a|d", "bc"},
		{"ab|cd", 1, 3, "a|d", "bc"},
		{"abc|d", 1, 3, "a|d", "bc"},
		{"abcd|", 1, 3, "ad|", "bc"},
		// From behind to.
		{"abcd|", 3, 1, "ad|", "bc"},
		{"ab|cd", 3, 1, "a|d", "bc"},
		// Both the same.
		{"ab|cd", 0, 0, "ab|cd", ""},
		{"ab|cd", 2, 2, "ab|cd", ""},
		{"ab|cd", 4, 4, "ab|cd", ""},
		// One outside, both outside, on the same side and on both.
		{"ab|cd", -1, 1, "b|cd", "a"},
		{"ab|cd", 3, 99, "ab|c", "d"},
		{"ab|cd", -9, 9, "|", "abcd"},
		{"ab|cd", 9, -9, "|", "abcd"},
		{"ab|cd", -9, -1, "ab|cd", ""},
		{"ab|cd", 5, 9, "ab|cd", ""},
		{"ab|cd", 4, 9, "ab|cd", ""},
		{"ab|cd", 0, -9, "ab|cd", ""},
		{"ab|cd", math.MinInt, math.MaxInt, "|", "abcd"},
		{"ab|cd", math.MaxInt, 1, "a|", "bcd"},
		{"ab|cd", 3, math.MinInt, "|d", "abc"},
		{"ab|cd", 0, 2, "|cd", "ab"},
		{"ab|cd", 2, 4, "ab|", "cd"},
		{"\u6f22e|\u0301\U0001f600", 0, 3, "|\U0001f600", "\u6f22e\u0301"},
	} {
		got, gone := Delete(of(x.l), x.from, x.to)
		wantSaid(t, got, x.want, "Delete", x.l, x.from, x.to)
		if string(gone) != x.gone {
			t.Errorf("Delete(%s, %d, %d): %q went; want %q", x.l, x.from, x.to, gone, x.gone)
		}
	}
}

func TestDeleteEverywhere(t *testing.T) {
	for _, l := range someLines() {
		for _, from := range placesAround(len(l.R)) {
			for _, to := range placesAround(len(l.R)) {
				wantDelete(t, l, from, to)
			}
		}
	}
}

// P11.1: Move, To

func TestPlacesByHand(t *testing.T) {
	for _, x := range []struct {
		l        string
		n        int
		move, to string
	}{
		{"|", 0, "|", "|"},
		{"|", 1, "|", "|"},
		{"|", -1, "|", "|"},
		{"ab|cd", 0, "ab|cd", "|abcd"},
		{"ab|cd", 1, "abc|d", "a|bcd"},
		{"ab|cd", 2, "abcd|", "ab|cd"},
		{"ab|cd", 3, "abcd|", "abc|d"},
		{"ab|cd", 4, "abcd|", "abcd|"},
		{"ab|cd", 5, "abcd|", "abcd|"},
		{"ab|cd", -1, "a|bcd", "|abcd"},
		{"ab|cd", -2, "|abcd", "|abcd"},
		{"ab|cd", -3, "|abcd", "|abcd"},
		{"|abcd", -1, "|abcd", "|abcd"},
		{"|abcd", 4, "abcd|", "abcd|"},
		{"|abcd", 3, "abc|d", "abc|d"},
		{"abcd|", 1, "abcd|", "a|bcd"},
		{"abcd|", -4, "|abcd", "|abcd"},
		{"abcd|", -3, "a|bcd", "|abcd"},
		{"abcd|", math.MaxInt, "abcd|", "abcd|"},
		{"abcd|", math.MinInt, "|abcd", "|abcd"},
		{"a|bcd", math.MaxInt, "abcd|", "abcd|"},
		{"a|bcd", math.MinInt, "|abcd", "|abcd"},
		{"|abcd", math.MinInt, "|abcd", "|abcd"},
		{"a|bcd", math.MaxInt - 1, "abcd|", "abcd|"},
		{"a|bcd", math.MinInt + 1, "|abcd", "|abcd"},
		{"\u6f22|e\u0301", 1, "\u6f22e|\u0301", "\u6f22|e\u0301"},
	} {
		wantSaid(t, Move(of(x.l), x.n), x.move, "Move", x.l, x.n)
		wantSaid(t, To(of(x.l), x.n), x.to, "To", x.l, x.n)
	}
}

func TestPlacesEverywhere(t *testing.T) {
	for _, l := range someLines() {
		for _, n := range placesAround(len(l.R)) {
			wantPlaces(t, l, n)
		}
	}
}

// P11.1: Put

func TestPutByHand(t *testing.T) {
	for _, x := range []struct {
		l        string
		from, to int
		t, want  string
	}{
		{"|", 0, 0, "", "|"},
		{"|", 0, 0, "x", "x|"},
		{"|", -3, 3, "xy", "xy|"},
		// Ahead of the runes that go, at the first of them, among them, at their end, behind them.
		{"|abcde", 1, 3, "xyz", "|axyzde"},
		{"a|bcde", 1, 3, "xyz", "axyz|de"},
		{"ab|cde", 1, 3, "xyz", "axyz|de"},
		{"abc|de", 1, 3, "xyz", "axyz|de"},
		{"abcd|e", 1, 3, "xyz", "axyzd|e"},
		{"abcde|", 1, 3, "xyz", "axyzde|"},
		{"abcde|", 3, 1, "xyz", "axyzde|"},
		{"a|bcde", 3, 1, "xyz", "axyz|de"},
		// None comes.
		{"|abcde", 1, 3, "", "|ade"},
		{"a|bcde", 1, 3, "", "a|de"},
		{"ab|cde", 1, 3, "", "a|de"},
		{"abc|de", 1, 3, "", "a|de"},
		{"abcd|e", 1, 3, "", "ad|e"},
		// None goes.
		{"|ab", 1, 1, "x", "|axb"},
		{"a|b", 1, 1, "x", "ax|b"},
		{"ab|", 1, 1, "x", "axb|"},
		{"|ab", 0, 0, "x", "x|ab"},
		{"ab|", 2, 2, "x", "abx|"},
		{"a|b", 2, 2, "x", "a|bx"},
		{"a|b", 1, 1, "", "a|b"},
		// Both outside: ahead of the line, behind it, on both sides.
		{"a|b", -9, -1, "x", "xa|b"},
		{"|ab", -9, -1, "x", "x|ab"},
		{"a|b", 9, 3, "x", "a|bx"},
		{"ab|", 3, 9, "x", "abx|"},
		{"a|b", -9, 9, "x", "x|"},
		{"|ab", 9, -9, "xyz", "xyz|"},
		{"a|b", math.MinInt, math.MaxInt, "\u6f22", "\u6f22|"},
		{"a|b", math.MaxInt, 1, "\u6f22", "a\u6f22|"},
		{"|ab", math.MaxInt, 1, "\u6f22", "|a\u6f22"},
	} {
		got, ok := Put(of(x.l), x.from, x.to, []rune(x.t))
		wantSaid(t, got, x.want, "Put", x.l, x.from, x.to, x.t)
		if !ok {
			t.Errorf("Put(%s, %d, %d, %q): false", x.l, x.from, x.to, x.t)
		}
	}
}

func TestPutEverywhere(t *testing.T) {
	for _, l := range someLines() {
		for _, text := range someTexts() {
			for _, from := range placesAround(len(l.R)) {
				for _, to := range placesAround(len(l.R)) {
					wantPut(t, l, from, to, text)
				}
			}
		}
	}
}

// TestPutNoRune: the line as it was, all that would have gone and its place among it.
func TestPutNoRune(t *testing.T) {
	for _, r := range noRunes() {
		for _, x := range []struct {
			l        string
			from, to int
		}{{"ab|cd", 0, 4}, {"ab|cd", 4, 0}, {"ab|cd", 2, 2}, {"|abcd", 1, 3}, {"abcd|", 1, 3}, {"abc|d", -9, 9}, {"|", 0, 0}} {
			for _, text := range [][]rune{{r}, {r, 'x'}, {'x', r}, {'x', r, 'y'}} {
				got, ok := Put(of(x.l), x.from, x.to, text)
				wantSaid(t, got, x.l, "Put", x.from, x.to, text)
				if ok {
					t.Errorf("Put(%s, %d, %d, %q): true", x.l, x.from, x.to, text)
				}
			}
		}
	}
}

// TestPutMaxLine: what goes makes room for what comes.
func TestPutMaxLine(t *testing.T) {
	for _, n := range []int{api.MaxLine - 1, api.MaxLine} {
		for _, at := range []int{0, 5, 6, 8, 10, 11, n - 1, n} {
			l := api.Line{R: letters(n), At: at}
			for _, gone := range []int{0, 1, 5, n - 5, api.MaxLine} {
				from, to := 5, min(5+gone, n)
				room := api.MaxLine - n + to - from
				for _, more := range []int{0, room - 1, room, room + 1, api.MaxLine + 1} {
					wantPut(t, l, from, to, slices.Repeat([]rune{'x'}, max(more, 0)))
					wantPut(t, l, to, from, slices.Repeat([]rune{0x6f22}, max(more, 0)))
				}
			}
			wantPut(t, l, math.MinInt, math.MaxInt, letters(api.MaxLine))
			wantPut(t, l, math.MinInt, math.MaxInt, letters(api.MaxLine+1))
		}
	}
}

// TestPutIsDeleteAndInsert: Put where the place is among what goes is as Delete and Insert.
func TestPutIsDeleteAndInsert(t *testing.T) {
	for _, l := range someLines() {
		for from := range l.At + 1 {
			for to := l.At; to <= len(l.R); to++ {
				for _, text := range someTexts() {
					rest, _ := Delete(l, from, to)
					wanted, _ := Insert(rest, text)
					got, _ := Put(l, from, to, text)
					want(t, got, wanted, l, "Put", from, to, text)
				}
			}
		}
	}
}

// P11.1: Text

func TestTextByHand(t *testing.T) {
	for _, x := range []struct {
		l    api.Line
		want string
	}{
		{api.Line{}, ""},
		{of("ab|c"), "abc"},
		{of("|abc"), "abc"},
		{of("abc|"), "abc"},
		{api.Line{R: []rune{'a', 0xe9, 0x6f22, 0x1f600}, At: 1}, "a\xc3\xa9\xe6\xbc\xa2\xf0\x9f\x98\x80"},
		{api.Line{R: []rune{0, 0xd7ff, 0xe000, 0xfffd, 0x10ffff}, At: 5}, "\x00\xed\x9f\xbf\xee\x80\x80\xef\xbf\xbd\xf4\x8f\xbf\xbf"},
		{of("\r\n\t| \x1b[m"), "\r\n\t \x1b[m"},
	} {
		if got := Text(x.l); got != x.want {
			t.Errorf("Text(%s): %q; want %q", told(x.l), got, x.want)
		}
	}
}

// TestTextAllRunes: a text is of just one line's runes, whatever they are.
func TestTextAllRunes(t *testing.T) {
	var all []rune
	for r := rune(0); r <= 0x10ffff; r++ {
		if wantedRune(r) {
			all = append(all, r)
		}
	}
	for part := range slices.Chunk(all, api.MaxLine) {
		l := api.Line{R: part, At: len(part) / 2}
		wantText(t, l)
		if !slices.Equal([]rune(Text(l)), part) {
			t.Fatalf("Text of the runes from %x on is others' as well", part[0])
		}
	}
	for _, l := range someLines() {
		wantText(t, l)
		wantText(t, To(l, 0))
	}
}

// P11.2

func TestSwapByHand(t *testing.T) {
	for _, x := range []struct {
		l, want string
		ok      bool
	}{
		{"|", "|", false},
		{"|a", "|a", false},
		{"a|", "a|", false},
		{"|ab", "|ab", false},
		{"a|b", "ba|", true},
		// The chapter's example.
		{"ab|", "ba|", true},
		{"|abcd", "|abcd", false},
		{"a|bcd", "ba|cd", true},
		{"ab|cd", "acb|d", true},
		{"abc|d", "abdc|", true},
		{"abcd|", "abdc|", true},
		{"aa|b", "aba|", true},
		{"aaa|", "aaa|", true},
		{"a|aa", "aa|a", true},
		{"\u6f22|e\u0301", "e\u6f22|\u0301", true},
		{"\x00|\U0010ffff", "\U0010ffff\x00|", true},
	} {
		got, ok := Swap(of(x.l))
		wantSaid(t, got, x.want, "Swap", x.l)
		if ok != x.ok {
			t.Errorf("Swap(%s): %v", x.l, ok)
		}
	}
}

func TestSwapEverywhere(t *testing.T) {
	for _, l := range someLines() {
		wantSwap(t, l)
	}
	for _, n := range []int{api.MaxLine - 1, api.MaxLine} {
		for _, at := range []int{0, 1, 2, n / 2, n - 2, n - 1, n} {
			wantSwap(t, api.Line{R: letters(n), At: at})
		}
	}
}

// P11.3

// TestLineHasAnEnd: whatever is typed, a line has at most MaxLine runes; what is one too many leaves it as it is.
func TestLineHasAnEnd(t *testing.T) {
	var l api.Line
	block := letters(api.MaxLine / 16)
	for n := range 20 {
		more, ok := Insert(l, block)
		if ok != (n < 16) || len(more.R) != min(n+1, 16)*len(block) {
			t.Fatalf("%d blocks: %v, %s", n+1, ok, told(more))
		}
		l = more
	}
	for _, at := range []int{0, 1, api.MaxLine / 2, api.MaxLine} {
		l = To(l, at)
		for _, text := range [][]rune{{'x'}, {'x', 'y'}, l.R} {
			got, ok := Insert(l, text)
			if want(t, got, l, l, "Insert"); ok {
				t.Errorf("Insert of %d runes into a full line: true", len(text))
			}
			got, ok = Put(l, 7, 7, text)
			if want(t, got, l, l, "Put"); ok {
				t.Errorf("Put of %d runes into a full line: true", len(text))
			}
		}
		if _, ok := Put(l, 7, 8, []rune{'x'}); !ok {
			t.Error("Put of a rune where one goes: false")
		}
	}
	// One goes, and there is room for one again.
	l, _ = Delete(l, 0, 1)
	l, ok := Insert(l, []rune{'x'})
	if _, again := Insert(l, []rune{'x'}); !ok || again {
		t.Errorf("Insert where one went: %v, and once more: %v", ok, again)
	}
}

// TestPlaceHasAnEnd: no way leads out of a line.
func TestPlaceHasAnEnd(t *testing.T) {
	for _, n := range []int{0, 1, 2, 5, api.MaxLine - 1, api.MaxLine} {
		for _, at := range []int{0, 1, n / 2, n - 1, n} {
			l := api.Line{R: letters(n), At: min(max(at, 0), n)}
			for _, far := range []int{n, n + 1, 1 << 32, math.MaxInt - 1, math.MaxInt} {
				want(t, Move(l, far), api.Line{R: l.R, At: n}, l, "Move", far)
				want(t, To(l, far), api.Line{R: l.R, At: n}, l, "To", far)
				want(t, Move(l, -far), api.Line{R: l.R}, l, "Move", -far)
				want(t, To(l, -far), api.Line{R: l.R}, l, "To", -far)
			}
			want(t, Move(l, math.MinInt), api.Line{R: l.R}, l, "Move", math.MinInt)
			want(t, To(l, math.MinInt), api.Line{R: l.R}, l, "To", math.MinInt)
		}
	}
}

// What holds of all calls.

// TestNoLine: of lines that Right refuses, every call ends.
func TestNoLine(t *testing.T) {
	lists := [][]rune{nil, {'a'}, {'a', 'b'}, letters(5), {-1}, {'a', 0xd800, 'b'}, {0x110000, math.MinInt32, math.MaxInt32}, letters(api.MaxLine), letters(api.MaxLine + 1), letters(2 * api.MaxLine)}
	texts := [][]rune{nil, {'x'}, {-1}, letters(api.MaxLine), letters(api.MaxLine + 1)}
	ends := []int{math.MinInt, -1 << 32, -2, -1, 0, 1, 2, 3, 6, api.MaxLine, api.MaxLine + 2, 3 * api.MaxLine, 1 << 62, math.MaxInt}
	for _, list := range lists {
		for _, at := range ends {
			l := api.Line{R: slices.Clone(list), At: at}
			for _, n := range []int{math.MinInt, -1, 0, 1, 4, math.MaxInt} {
				Move(l, n)
				To(l, n)
				for _, m := range []int{math.MinInt, 0, 2, math.MaxInt} {
					Delete(l, n, m)
				}
			}
			for _, text := range texts {
				Insert(l, text)
				Put(l, 0, 1, text)
				Put(l, math.MaxInt, math.MinInt, text)
			}
			Swap(l)
			Text(l)
			if !slices.Equal(l.R, list) || l.At != at {
				t.Fatalf("%s is changed", told(l))
			}
		}
	}
}

// calls: each call that answers lists, once as it does what it does and once as it answers false, or as it has nothing to do.
func calls() map[string]func(l api.Line, text []rune) [][]rune {
	one := func(l api.Line, _ bool) [][]rune { return [][]rune{l.R} }
	two := func(l api.Line, gone []rune) [][]rune { return [][]rune{l.R, gone} }
	return map[string]func(l api.Line, text []rune) [][]rune{
		"Insert":            func(l api.Line, text []rune) [][]rune { return one(Insert(l, text)) },
		"Insert of nothing": func(l api.Line, text []rune) [][]rune { return one(Insert(l, text[:0])) },
		"Insert of none":    func(l api.Line, text []rune) [][]rune { return one(Insert(l, []rune{-1})) },
		"Insert at the end": func(l api.Line, text []rune) [][]rune { return one(Insert(api.Line{R: l.R, At: len(l.R)}, text)) },
		"Delete":            func(l api.Line, text []rune) [][]rune { return two(Delete(l, 1, 3)) },
		"Delete of all":     func(l api.Line, text []rune) [][]rune { return two(Delete(l, 0, 9)) },
		"Delete of nothing": func(l api.Line, text []rune) [][]rune { return two(Delete(l, 2, 2)) },
		"Delete of the end": func(l api.Line, text []rune) [][]rune { return two(Delete(l, 2, 9)) },
		"Move":              func(l api.Line, text []rune) [][]rune { return [][]rune{Move(l, 1).R} },
		"Move by nothing":   func(l api.Line, text []rune) [][]rune { return [][]rune{Move(l, 0).R} },
		"To":                func(l api.Line, text []rune) [][]rune { return [][]rune{To(l, 1).R} },
		"To where it is":    func(l api.Line, text []rune) [][]rune { return [][]rune{To(l, l.At).R} },
		"Swap":              func(l api.Line, text []rune) [][]rune { return one(Swap(l)) },
		"Swap of none":      func(l api.Line, text []rune) [][]rune { return one(Swap(api.Line{R: l.R})) },
		"Swap at the end":   func(l api.Line, text []rune) [][]rune { return one(Swap(api.Line{R: l.R, At: len(l.R)})) },
		"Put":               func(l api.Line, text []rune) [][]rune { return one(Put(l, 1, 3, text)) },
		"Put for all":       func(l api.Line, text []rune) [][]rune { return one(Put(l, 0, 9, text)) },
		"Put behind all":    func(l api.Line, text []rune) [][]rune { return one(Put(l, 9, 9, text)) },
		"Put of nothing":    func(l api.Line, text []rune) [][]rune { return one(Put(l, 2, 2, text[:0])) },
		"Put of none":       func(l api.Line, text []rune) [][]rune { return one(Put(l, 1, 3, []rune{-1})) },
	}
}

// spare answers the text's runes with room behind them, and all that room.
func spare(text string) ([]rune, []rune) {
	room := []rune(text + strings.Repeat("-", 20))
	return room[:len([]rune(text))], room
}

// TestHandedIn: what is handed in, with the room behind it, is neither changed nor kept.
func TestHandedIn(t *testing.T) {
	for name, call := range calls() {
		for at := range 5 {
			r, room := spare("abcd")
			text, textRoom := spare("xyz")
			was, textWas := slices.Clone(room), slices.Clone(textRoom)
			lists := call(api.Line{R: r, At: at}, text)
			if !slices.Equal(room, was) || !slices.Equal(textRoom, textWas) {
				t.Errorf("%s: what is handed in is changed: %q, %q", name, room, textRoom)
			}
			for i, list := range lists {
				said := slices.Clone(list)
				fill(room, '!')
				fill(textRoom, '!')
				if !slices.Equal(list, said) {
					t.Errorf("%s: list %d is changed by what was handed in: %q; was %q", name, i, list, said)
				}
				copy(room, was)
				copy(textRoom, textWas)
			}
		}
	}
}

func fill(l []rune, r rune) {
	for i := range l {
		l[i] = r
	}
}

// TestNewMemory: what is written into an answer, and into the room behind it, changes nothing else.
func TestNewMemory(t *testing.T) {
	for name, call := range calls() {
		for at := range 5 {
			r, room := spare("abcd")
			text, textRoom := spare("xyz")
			was, textWas := slices.Clone(room), slices.Clone(textRoom)
			lists := call(api.Line{R: r, At: at}, text)
			again := call(api.Line{R: r, At: at}, text)
			for i, list := range lists {
				fill(list[:cap(list)], rune('0'+i))
			}
			if !slices.Equal(room, was) || !slices.Equal(textRoom, textWas) {
				t.Errorf("%s: an answer is what was handed in: %q, %q", name, room, textRoom)
			}
			for i, list := range lists {
				if slices.ContainsFunc(list, func(r rune) bool { return r != rune('0'+i) }) {
					t.Errorf("%s: list %d shares memory with another one", name, i)
				}
			}
			for i, list := range call(api.Line{R: r, At: at}, text) {
				if !slices.Equal(list, again[i]) {
					t.Errorf("%s: list %d is another one now: %q; was %q", name, i, list, again[i])
				}
			}
		}
	}
}

// TestNilIsEmpty: of no runes, be they nil or empty.
func TestNilIsEmpty(t *testing.T) {
	for _, r := range [][]rune{nil, {}, letters(3)[:0]} {
		l := api.Line{R: r}
		for _, text := range [][]rune{nil, {}, letters(3)[:0], {'x'}, {-1}} {
			wantInsert(t, l, text)
			wantPut(t, l, 0, 0, text)
			wantPut(t, l, -1, 1, text)
		}
		wantDelete(t, l, 0, 0)
		wantDelete(t, l, -1, 1)
		wantPlaces(t, l, 0)
		wantPlaces(t, l, 1)
		wantSwap(t, l)
		wantText(t, l)
		if !Right(l) {
			t.Error("Right of no runes: false")
		}
	}
}

// walk: calls one behind another, as the bytes say, each held against the promises.
func walk(t *testing.T, l api.Line, b []byte) {
	t.Helper()
	for len(b) >= 4 {
		kind, n, m, size := b[0], int(int8(b[1])), int(int8(b[2])), int(b[3])
		b = b[4:]
		if n == math.MaxInt8 {
			n = math.MaxInt
		}
		if n == math.MinInt8 {
			n = math.MinInt
		}
		text := letters(size % 16)
		if size >= 240 && len(text) > 0 {
			text[size%len(text)] = noRunes()[size%len(noRunes())]
		}
		if size >= 236 && size < 240 {
			text = letters(max(api.MaxLine-len(l.R)+size-237, 0))
		}
		wantText(t, l)
		switch kind % 6 {
		case 0:
			wantInsert(t, l, text)
			l, _ = Insert(l, text)
		case 1:
			wantDelete(t, l, n, m)
			l, _ = Delete(l, n, m)
		case 2:
			wantPut(t, l, n, m, text)
			l, _ = Put(l, n, m, text)
		case 3:
			wantPlaces(t, l, n)
			l = Move(l, n)
		case 4:
			wantPlaces(t, l, n)
			l = To(l, n)
		case 5:
			wantSwap(t, l)
			l, _ = Swap(l)
		}
	}
}

func TestAnyCalls(t *testing.T) {
	r := rand.New(rand.NewSource(11))
	for range 300 {
		b := make([]byte, 4*r.Intn(60))
		r.Read(b)
		walk(t, api.Line{}, b)
	}
}

func FuzzCalls(f *testing.F) {
	f.Add("ab|cd", []byte{0, 0, 0, 3, 5, 0, 0, 0})
	f.Add("", []byte{2, 128, 127, 255, 1, 0, 3, 0, 3, 127, 0, 0})
	f.Add("\u6f22|", []byte{0, 0, 0, 237, 0, 0, 0, 1, 4, 1, 0, 0, 5, 0, 0, 0})
	f.Fuzz(func(t *testing.T, s string, b []byte) {
		if len(s) < 1000 && len(b) < 400 {
			walk(t, of(s), b)
		}
	})
}

package screen

import (
	"fmt"
	"math"
	"math/rand"
	"strings"
	"testing"

	"reprise/api"
)

// shown: a size, bytes, and what told tells behind them.
type shown struct {
	rows, cols int
	b, want    string
}

func wantShown(t *testing.T, list []shown) {
	t.Helper()
	for _, x := range list {
		s, _ := New(x.rows, x.cols)
		s = Feed(s, []byte(x.b))
		if told(s) != x.want {
			t.Errorf("%d rows of %d, %q: %q; want %q", x.rows, x.cols, x.b, told(s), x.want)
		}
		wantSame(t, s, behind(x.rows, x.cols, x.b), "Feed", x.b)
		if !Right(s) {
			t.Errorf("%d rows of %d, %q: not Right", x.rows, x.cols, x.b)
		}
	}
}

// P9.2: Print

func TestPrintByHand(t *testing.T) {
	wantShown(t, []shown{
		{1, 1, "a", "a|0,0w"}, {1, 1, "ab", "b|0,0w"}, {1, 1, "\x1b[?7la", "a|0,0"}, {1, 1, "\x1b[?7lab", "b|0,0"}, {1, 1, "\u6f22", ".|0,0"}, {1, 1, "\x1b[?7l\u6f22", ".|0,0"}, {1, 1, "a\u6f22", ".|0,0"},
		{1, 2, "\u6f22", "LR|0,1w"}, {1, 2, "\u6f22a", "a.|0,1"}, {1, 2, "a\u6f22", "LR|0,1w"}, {1, 2, "\x1b[?7la\u6f22", "a.|0,1"}, {1, 2, "\x1b[?7l\u6f22", "LR|0,1"}, {1, 2, "\x1b[?7l\u6f22a", ".a|0,1"}, {1, 2, "\x1b[?7l\u6f22\u6f22", "LR|0,1"},
		{2, 2, "\u6f22\u6f22", "LR|LR|1,1w"}, {2, 2, "\u6f22\u6f22\u6f22", "LR|LR|1,1w"}, {2, 2, "a\u6f22b", "LR|b.|1,1"}, {2, 2, "abcde", "cd|e.|1,1"},
		// Of no width: nothing, a wrap waits on.
		{1, 2, "ab\u0301", "ab|0,1w"}, {1, 2, "\u0301", "..|0,0"}, {1, 2, "ab\u200bc", "c.|0,1"}, {2, 1, "a\ufe0fb", "a|b|1,0w"}, {1, 3, "a\u0080b", "ab.|0,2"},
		// A wrap goes to the next row whatever comes then, even a wide rune that has no room there.
		{2, 1, "a\u6f22", "a|.|1,0"}, {3, 1, "a\u6f22b", "a|b|.|1,0w"}, {2, 2, "ab\x1b[?7l\u6f22", "ab|LR|1,1"}, {2, 2, "ab\x1b[?7lc", "ab|c.|1,1"}, {2, 1, "a\x1b[?7l\u6f22", "a|.|1,0"},
		// Without Auto the last column is written over and over.
		{2, 3, "\x1b[?7labcdef", "abf|...|0,2"}, {2, 3, "\x1b[?7la\u6f22b", "a.b|...|0,2"}, {2, 3, "\x1b[?7lab\u6f22c", "abc|...|0,2"}, {2, 3, "\x1b[?7labc\x1b[?7hd", "abd|...|0,2w"}, {2, 3, "\x1b[?7labc\x1b[?7h\u6f22", "abc|LR.|1,2"},
		// At the region's end, below it.
		{3, 2, "\x1b[1;2rabcde", "cd|e.|..|1,1"}, {3, 2, "\x1b[1;2r\x1b[3;1Habc", "..|..|cb|2,1"}, {3, 2, "\x1b[2;3rabcdefg", "ab|ef|g.|2,1"}, {3, 2, "\x1b[1;2r\x1b[3;2H\u6f22", "..|..|LR|2,1w"},
		// What is written over.
		{1, 4, "\u6f22\u6f22\ra", "a.LR|0,1"}, {1, 4, "\u6f22\u6f22\x1b[2Ga", ".aLR|0,2"}, {1, 4, "\u6f22\u6f22\x1b[2G\u6f22", ".LR.|0,3"}, {1, 4, "\u6f22\u6f22\r\u5b57", "LRLR|0,2"}, {1, 4, "a\u6f22b\r\u6f22", "LR.b|0,2"}, {1, 4, "\u6f22\u6f22\x1b[3Gab", "LRab|0,3w"}, {1, 4, "\u6f22\u6f22\x1b[4Ga", "LR.a|0,3w"},
		{1, 4, "\xffa\xe6b", "\ufffda\ufffdb|0,3w"}, {1, 3, "\xff\xffb", "\ufffd\ufffdb|0,2w"}, {2, 2, "a\xe6\xbcb", "a\ufffd|b.|1,1"},
	})
}

// TestPrintLooks: each cell that is written has the look there is, those that become blank have none.
func TestPrintLooks(t *testing.T) {
	s := Feed(wantedNew(1, 4), []byte("\x1b[1;31;42m\u6f22\u6f22\x1b[7m\x1b[2G\u5b57"))
	look, both := uint16(0x321), uint16(0x325)
	want := []api.Cell{{R: ' '}, {R: 0x5b57, Attr: both, Half: 1}, {Attr: both, Half: 2}, {R: ' '}}
	if fmt.Sprint(s.Cells) != fmt.Sprint(want) {
		t.Errorf("%v; want %v", s.Cells, want)
	}
	s = Feed(wantedNew(1, 3), []byte("\x1b[1;31;42m a\x1b[m "))
	want = []api.Cell{{R: ' ', Attr: look}, {R: 'a', Attr: look}, {R: ' '}}
	if fmt.Sprint(s.Cells) != fmt.Sprint(want) || told(s) != "#a.|0,2w" {
		t.Errorf("%v; want %v", s.Cells, want)
	}
}

// P9.2: Ctl

func TestControlsByHand(t *testing.T) {
	wantShown(t, []shown{
		{1, 3, "\b", "...|0,0"}, {1, 3, "a\b\b", "a..|0,0"}, {1, 3, "ab\b", "ab.|0,1"}, {1, 3, "abc\b", "abc|0,1"}, {1, 3, "\u6f22\bx", ".x.|0,2"}, {1, 1, "a\b", "a|0,0"},
		{1, 20, "\tx", "........x...........|0,9"}, {1, 20, "12345678\tx", "12345678........x...|0,17"}, {1, 20, "1234567\tx", "1234567.x...........|0,9"}, {1, 20, "\t\t\tx", "...................x|0,19w"}, {1, 8, "\tx", ".......x|0,7w"}, {1, 9, "\tx", "........x|0,8w"}, {1, 2, "ab\t", "ab|0,1"}, {1, 1, "a\t", "a|0,0"}, {2, 9, "\t\ta", "........a|.........|0,8w"},
		{1, 12, "\x1b[3g\tx", "...........x|0,11w"}, {1, 12, "\x1b[3g\x1b[5G\x1bH\x1b[2G\x1bH\r\tx", ".x..........|0,2"}, {1, 12, "\x1b[5G\x1bH\r\t\tx", "........x...|0,9"}, {1, 12, "\x1b[9G\x1b[0g\r\tx", "...........x|0,11w"}, {1, 12, "\x1b[9G\x1b[1g\r\tx", "........x...|0,9"}, {1, 12, "\x1b[9G\x1b[;3g\r\tx", "...........x|0,11w"}, {1, 12, "\x1b[9G\x1b[3;1g\r\tx", "...........x|0,11w"}, {1, 12, "\x1b[1;3g\tx", "........x...|0,9"},
		{2, 3, "a\n", "a..|...|1,1"}, {2, 3, "a\v", "a..|...|1,1"}, {2, 3, "a\f", "a..|...|1,1"}, {2, 3, "abc\n", "abc|...|1,2"}, {2, 3, "abc\nd", "abc|..d|1,2w"}, {1, 3, "ab\n", "...|0,2"}, {2, 3, "a\nb\nc", ".b.|..c|1,2w"},
		{3, 2, "a\r\nb\r\nc\r\nd", "b.|c.|d.|2,1"}, {3, 2, "a\r\nb\r\nc\x1b[1;2r\x1b[2;1H\nx", "b.|x.|c.|1,1"}, {3, 2, "a\r\nb\r\nc\x1b[1;2r\x1b[3;1H\nx", "a.|b.|x.|2,1"}, {3, 2, "a\r\nb\r\nc\x1b[2;3r\n\n\nx", "a.|c.|x.|2,1"}, {4, 1, "\x1b[2;3r\x1b[4;1Ha\nb", ".|.|.|b|3,0w"}, {4, 1, "\x1b[2;3ra\r\nb\r\nc\r\nd\r\ne", "a|d|e|.|2,0w"}, {4, 1, "\x1b[1;2r\x1b[3;1Ha\r\nb\r\nc", ".|.|a|c|3,0w"},
		{2, 3, "ab\rc", "cb.|...|0,1"}, {2, 3, "abc\rd", "dbc|...|0,1"}, {2, 3, "\r", "...|...|0,0"},
		{2, 3, "abc\x00\x01\x05\x06\x07\x0e\x0f\x10\x1f\x7f", "abc|...|0,2w"}, {2, 3, "abc\x18\x1a", "abc|...|0,2w"},
		// Within a sequence they do the same.
		{2, 3, "ab\x1b[\n1Dc", "ab.|.c.|1,2"}, {2, 3, "ab\x1b[\r2Cc", "abc|...|0,2w"},
	})
}

// P9.3

func TestEscapesByHand(t *testing.T) {
	wantShown(t, []shown{
		{2, 3, "a\x1b7b\x1b8c", "ac.|...|0,2"}, {2, 3, "abc\x1b7\x1b8d", "abd|...|0,2w"}, {2, 3, "abc\x1b7d", "abc|d..|1,1"}, {2, 3, "ab\x1b8c", "cb.|...|0,1"}, {2, 3, "\x1b7ab\x1b8\x1b8c", "cb.|...|0,1"}, {2, 3, "a\x1b7b\x1b7\r\x1b8c", "abc|...|0,2w"}, {3, 1, "\x1b[2;3r\x1b[2;1H\x1b7\x1b[r\x1b8a", ".|a|.|1,0w"},
		{2, 3, "a\x1bDb", "a..|.b.|1,2"}, {2, 3, "abc\x1bD", "abc|...|1,2"}, {2, 3, "a\x1bD\x1bDb", "...|.b.|1,2"}, {3, 1, "a\r\x1bDb\x1b[1;2r\x1b[2;1H\x1bDc", "b|c|.|1,0w"},
		{2, 3, "a\x1bEb", "a..|b..|1,1"}, {2, 3, "abc\x1bE", "abc|...|1,0"}, {2, 3, "a\x1bEb\x1bEc", "b..|c..|1,1"}, {3, 2, "\x1b[1;2r\x1b[3;2Ha\x1bEb", "..|..|ba|2,1"},
		{2, 3, "a\x1bMb", ".b.|a..|0,2"}, {2, 3, "a\nb\x1bMc", "a.c|.b.|0,2w"}, {2, 3, "a\nbc\x1bM", "a..|.bc|0,2"}, {3, 1, "\x1b[2;3ra\nb\nc\x1b[2;1H\x1bMd", "a|d|b|1,0w"}, {3, 1, "a\nb\nc\x1b[2;3r\x1bMd", "d|b|c|0,0w"}, {3, 1, "a\nb\nc\x1b[1;2r\x1b[3;1H\x1bMd", "a|d|c|1,0w"}, {3, 1, "a\nb\nc\x1b[1;2r\x1b[H\x1bMd", "d|a|c|0,0w"}, {1, 2, "ab\x1bM", "..|0,1"},
		{1, 9, "ab\x1bH\r\tc", "abc......|0,3"}, {1, 3, "abc\x1bH", "abc|0,2w"}, {1, 9, "\x1bH\tc", "........c|0,8w"},
		{2, 2, "ab\x1bc", "..|..|0,0"}, {2, 2, "abc\x1bcx", "x.|..|0,1"},
		{1, 3, "ab\x1b=\x1b>\x1bN\x1bZ\x1b\\\x1ba\x1b9\x1b6\x1bd\x1b@\x1b~c", "abc|0,2w"}, {1, 3, "ab\x1b(B\x1b#8\x1b 7\x1b(c\x1b(D\x1b(M\x1b()Hc", "abc|0,2w"}, {1, 3, "abc\x1b=", "abc|0,2w"},
	})
}

// TestEscapesState: what is saved, and what a reset leaves: nothing.
func TestEscapesState(t *testing.T) {
	for b, want := range map[string]string{
		"":                           "0 0-1 saved 0,0,0 auto true shown true alt false 0,0 tabs 0",
		"\x1b[2;2H\x1b[1m\x1b7":      "1 0-1 saved 1,1,1 auto true shown true alt false 0,0 tabs 0",
		"\x1b[2;2H\x1b[1m\x1b7\x1b8": "1 0-1 saved 1,1,1 auto true shown true alt false 0,0 tabs 0",
		"\x1b[31m\x1b7\x1b[m":        "0 0-1 saved 0,0,20 auto true shown true alt false 0,0 tabs 0",
		"\x1b[31m\x1b7\x1b[m\x1b8":   "20 0-1 saved 0,0,20 auto true shown true alt false 0,0 tabs 0",
		"\x1b[31m\x1b8":              "0 0-1 saved 0,0,0 auto true shown true alt false 0,0 tabs 0",
		"\x1b[3C\x1bH":               "0 0-1 saved 0,0,0 auto true shown true alt false 0,0 tabs 0 3",
	} {
		if got := rest(Feed(wantedNew(2, 5), []byte(b))); got != want {
			t.Errorf("%q: %s; want %s", b, got, want)
		}
	}
	for _, b := range []string{"abc", "\x1b[1;31m", "\x1b[2;3r", "\x1b[3g", "\x1b[2;2H\x1b7", "\x1b[?7;25l", "\x1b[?1049hab", "\x1bHabcdefghijkl\u6f22"} {
		wantSame(t, Feed(wantedNew(3, 9), []byte(b+"\x1bc")), wantedNew(3, 9), "a reset", b)
	}
	// A save before the other cells goes on behind them; a save is not lost by a change of size.
	wantShown(t, []shown{{2, 3, "ab\x1b7\x1b[?1049h\x1b[2;1H\x1b8z", "..z|...|0,2w"}, {2, 3, "ab\x1b[?1049h\x1b[2;2H\x1b7\x1b[?1049l\x1b8z", "ab.|.z.|1,2"}})
	s, _ := Size(behind(3, 3, "\x1b[3;3H\x1b7\x1b[H"), 2, 2)
	if got := told(Feed(s, []byte("\x1b8z"))); got != "..|.z|1,1w" {
		t.Error(got)
	}
}

// P9.2 to P9.5: every act

// everyAct: acts of each kind, of each byte, with no, one and more numbers, with what is no act's.
func everyAct() []api.Act {
	var out []api.Act
	for _, r := range []rune{'a', ' ', 0xfffd, 0x6f22, 0x1f600, 0x301, 0, 7, 0x7f, 0x9f, -1, 0xd800, 0xdfff, 0x10ffff, 0x110000, math.MinInt32, math.MaxInt32} {
		out = append(out, api.Act{Kind: api.Print, R: r})
	}
	for b := range 256 {
		out = append(out, api.Act{Kind: api.Ctl, B: byte(b)}, api.Act{Kind: api.EscAct, B: byte(b)})
	}
	for _, b := range []byte("78DEMHc") {
		out = append(out, api.Act{Kind: api.EscAct, B: b, Inter: []byte("(")}, api.Act{Kind: api.EscAct, B: b, Inter: []byte(" !")})
	}
	out = append(out, sequences()...)
	for _, kind := range []int{-1, 4, 9, math.MinInt, math.MaxInt} {
		out = append(out, api.Act{Kind: kind, R: 'a', B: 'J'}, api.Act{Kind: kind, B: '\n'})
	}
	return out
}

// sequences: control sequences, those that do something with many numbers.
func sequences() []api.Act {
	lists := [][]int{nil, {}, {0}, {1}, {2}, {3}, {4}, {8}, {9}, {1000}, {1001}, {65535}, {0, 0}, {0, 2}, {2, 0}, {1, 2}, {2, 1}, {2, 2}, {2, 3}, {3, 2}, {1, 65535}, {3, 65535}, {2, 2, 2}, {1, 1, 2}}
	wild := [][]int{{-1}, {-2, -2}, {math.MinInt}, {math.MaxInt}, {math.MinInt, math.MinInt}, {math.MaxInt, math.MaxInt}, {1, math.MaxInt}, {1, math.MinInt}, {-1, 2}, {math.MinInt, 2}}
	var out []api.Act
	add := func(b byte, private byte, inter string, lists ...[]int) {
		for _, params := range lists {
			out = append(out, api.Act{Kind: api.CsiAct, Private: private, Params: params, Inter: []byte(inter), B: b})
		}
	}
	known := "ABCDG`dHfJKLM@PXSTrgm"
	for b := range 256 {
		if strings.IndexByte(known, byte(b)) >= 0 {
			add(byte(b), 0, "", lists...)
			add(byte(b), 0, "", wild...)
		} else {
			add(byte(b), 0, "", nil, []int{2, 3})
		}
	}
	for _, b := range []byte(known + "hl") {
		add(b, 0, " ", nil, []int{1049}, []int{2})
		add(b, '?', "$", nil, []int{7, 25, 1049})
		for _, private := range []byte("?>=<\x01!") {
			add(b, private, "", nil, []int{2}, []int{7, 25, 1049})
		}
	}
	for _, b := range []byte("hl") {
		add(b, '?', "", []int{7}, []int{25}, []int{1049}, []int{7, 25}, []int{25, 7}, []int{1049, 7}, []int{1049, 1049}, []int{0}, []int{1}, []int{6}, []int{47}, []int{1048}, []int{-7}, []int{math.MaxInt})
		add(b, 0, "", []int{7}, []int{25}, []int{1049})
	}
	for n := -1; n <= 110; n++ {
		add('m', 0, "", []int{n}, []int{1, n}, []int{n, 4}, []int{31, 42, n})
	}
	return out
}

// stages: screens for acts, of some sizes, in all states that the promises speak of.
func stages() []api.Screen {
	var out []api.Screen
	text := "abcdefghijklmnopqrstuvwxyz"
	for _, size := range [][2]int{{1, 1}, {1, 3}, {2, 1}, {2, 3}, {3, 4}, {4, 9}} {
		rows, cols := size[0], size[1]
		for _, fill := range []string{"", strings.Repeat(text, 2)[:rows*cols], strings.Repeat("\u6f22", rows*(cols/2)), strings.Repeat("x"+strings.Repeat("\u6f22", (cols-1)/2)+"\r\n", rows-1) + "\x1b[44my"} {
			for _, region := range []string{"", "\x1b[1;2r", "\x1b[2;3r"} {
				for _, state := range []string{"", "\x1b[?7l", "\x1b[1;32m\x1b[2;2H\x1b7\x1b[m\x1b[3g", "\x1b[2;3H\x1b[?1049hq\x1b[7m\u6f22"} {
					base := behind(rows, cols, fill+region+state)
					for _, at := range [][2]int{{0, 0}, {0, cols - 1}, {rows - 1, 0}, {rows - 1, cols - 1}, {rows / 2, cols / 2}} {
						s := clone(base)
						s.Y, s.X, s.Wrap = at[0], at[1], false
						out = append(out, s)
						if s.X == cols-1 {
							s = clone(s)
							s.Wrap = true
							out = append(out, s)
						}
					}
				}
			}
		}
	}
	return out
}

func TestEveryAct(t *testing.T) {
	all := stages()
	for i, a := range everyAct() {
		// Each act comes to each seventh stage, others to others: with all of them all stages are met many times.
		for j := i % 7; j < len(all); j += 7 {
			s := all[j]
			got := Do(s, a)
			wantSame(t, got, wantedDo(s, a), "Do", told(s), rest(s), fmt.Sprintf("%+v", a))
			if !Right(got) {
				t.Fatalf("Do %+v of %s %s: not Right: %s %s", a, told(s), rest(s), told(got), rest(got))
			}
		}
	}
}

// TestActsOneBehindAnother: walks of acts, those that vt doesn't tell among them.
func TestActsOneBehindAnother(t *testing.T) {
	r := rand.New(rand.NewSource(4))
	acts := everyAct()
	for range 400 {
		s := wantedNew(1+r.Intn(4), 1+r.Intn(10))
		for range 100 {
			a := acts[r.Intn(len(acts))]
			if r.Intn(2) == 0 {
				a = api.Act{Kind: api.Print, R: []rune("abc\u6f22")[r.Intn(4)]}
			}
			got := Do(s, a)
			wantSame(t, got, wantedDo(s, a), "Do", told(s), rest(s), fmt.Sprintf("%+v", a))
			s = got
		}
	}
}

// TestNoKind: an act of no kind does nothing, whatever its fields are.
func TestNoKind(t *testing.T) {
	s := behind(2, 2, "ab")
	for _, kind := range []int{math.MinInt, -1, 4, 5, math.MaxInt} {
		for _, b := range []byte("\b\t\n\rDEMc7J") {
			wantSame(t, Do(s, api.Act{Kind: kind, R: 'z', B: b}), s, "Do", kind, b)
		}
	}
}

package screen

import (
	"fmt"
	"testing"

	"reprise/api"
)

// P9.4: the cursor's moves

func TestMovesByHand(t *testing.T) {
	for _, x := range []struct {
		b, want string
	}{
		{"\x1b[A", "1,2"}, {"\x1b[0A", "1,2"}, {"\x1b[1A", "1,2"}, {"\x1b[2A", "0,2"}, {"\x1b[3A", "0,2"}, {"\x1b[99999A", "0,2"}, {"\x1b[;5A", "1,2"},
		{"\x1b[B", "3,2"}, {"\x1b[0B", "3,2"}, {"\x1b[2B", "4,2"}, {"\x1b[3B", "4,2"}, {"\x1b[99999B", "4,2"},
		{"\x1b[C", "2,3"}, {"\x1b[0C", "2,3"}, {"\x1b[2C", "2,4"}, {"\x1b[3C", "2,4"}, {"\x1b[99999C", "2,4"},
		{"\x1b[D", "2,1"}, {"\x1b[0D", "2,1"}, {"\x1b[2D", "2,0"}, {"\x1b[3D", "2,0"}, {"\x1b[99999D", "2,0"},
		{"\x1b[G", "2,0"}, {"\x1b[0G", "2,0"}, {"\x1b[1G", "2,0"}, {"\x1b[2G", "2,1"}, {"\x1b[5G", "2,4"}, {"\x1b[6G", "2,4"}, {"\x1b[99999G", "2,4"},
		{"\x1b[`", "2,0"}, {"\x1b[0`", "2,0"}, {"\x1b[4`", "2,3"}, {"\x1b[6`", "2,4"},
		{"\x1b[d", "0,2"}, {"\x1b[0d", "0,2"}, {"\x1b[2d", "1,2"}, {"\x1b[5d", "4,2"}, {"\x1b[6d", "4,2"}, {"\x1b[99999d", "4,2"},
		{"\x1b[H", "0,0"}, {"\x1b[0;0H", "0,0"}, {"\x1b[2H", "1,0"}, {"\x1b[;2H", "0,1"}, {"\x1b[2;4H", "1,3"}, {"\x1b[2;4;1H", "1,3"}, {"\x1b[5;5H", "4,4"}, {"\x1b[6;6H", "4,4"}, {"\x1b[6;1H", "4,0"}, {"\x1b[1;6H", "0,4"},
		{"\x1b[f", "0,0"}, {"\x1b[2;4f", "1,3"}, {"\x1b[6;6f", "4,4"}, {"\x1b[;3f", "0,2"},
		// No region holds them, nor are they told from it on.
		{"\x1b[3;4r\x1b[H", "0,0"}, {"\x1b[3;4r\x1b[5;5H", "4,4"}, {"\x1b[3;4r\x1b[4;1H\x1b[9B", "4,0"}, {"\x1b[3;4r\x1b[3;1H\x1b[9A", "0,0"}, {"\x1b[3;4r\x1b[2d", "1,0"},
	} {
		want := ".....|.....|.....|.....|.....|" + x.want
		wantShown(t, []shown{{5, 5, "\x1b[3;3H" + x.b, want}})
	}
	// No wrap waits behind them, even where the cursor stays.
	for _, b := range []string{"A", "C", "B", "3G", "3`", "1d", "1;3H", "1;3f"} {
		s := Feed(wantedNew(1, 3), []byte("abc\x1b["+b))
		if s.Wrap || told(Feed(s, []byte("d"))) != "abd|0,2w" {
			t.Errorf("%q: %s", b, told(s))
		}
	}
}

// P9.4: what is erased

func TestErasesByHand(t *testing.T) {
	full := "abcdefghi"
	wantShown(t, []shown{
		{3, 3, full + "\x1b[2;2H\x1b[J", "abc|d..|...|1,1"}, {3, 3, full + "\x1b[2;2H\x1b[0J", "abc|d..|...|1,1"}, {3, 3, full + "\x1b[2;2H\x1b[1J", "...|..f|ghi|1,1"}, {3, 3, full + "\x1b[2;2H\x1b[2J", "...|...|...|1,1"}, {3, 3, full + "\x1b[2;2H\x1b[3J", "abc|def|ghi|1,1"}, {3, 3, full + "\x1b[2;2H\x1b[;2J", "abc|d..|...|1,1"},
		{3, 3, full + "\x1b[H\x1b[J", "...|...|...|0,0"}, {3, 3, full + "\x1b[H\x1b[1J", ".bc|def|ghi|0,0"}, {3, 3, full + "\x1b[1;3H\x1b[J", "ab.|...|...|0,2"}, {3, 3, full + "\x1b[1;3H\x1b[1J", "...|def|ghi|0,2"}, {3, 3, full + "\x1b[3;1H\x1b[J", "abc|def|...|2,0"}, {3, 3, full + "\x1b[3;1H\x1b[1J", "...|...|.hi|2,0"}, {3, 3, full + "\x1b[J", "abc|def|gh.|2,2"}, {3, 3, full + "\x1b[1J", "...|...|...|2,2"},
		{3, 3, full + "\x1b[2;2H\x1b[K", "abc|d..|ghi|1,1"}, {3, 3, full + "\x1b[2;2H\x1b[1K", "abc|..f|ghi|1,1"}, {3, 3, full + "\x1b[2;2H\x1b[2K", "abc|...|ghi|1,1"}, {3, 3, full + "\x1b[2;2H\x1b[3K", "abc|def|ghi|1,1"}, {3, 3, full + "\x1b[H\x1b[1K", ".bc|def|ghi|0,0"}, {3, 3, full + "\x1b[H\x1b[K", "...|def|ghi|0,0"}, {3, 3, full + "\x1b[K", "abc|def|gh.|2,2"}, {3, 3, full + "\x1b[1K", "abc|def|...|2,2"},
		{3, 3, full + "\x1b[2;1H\x1b[X", "abc|.ef|ghi|1,0"}, {3, 3, full + "\x1b[2;1H\x1b[0X", "abc|.ef|ghi|1,0"}, {3, 3, full + "\x1b[2;1H\x1b[2X", "abc|..f|ghi|1,0"}, {3, 3, full + "\x1b[2;1H\x1b[3X", "abc|...|ghi|1,0"}, {3, 3, full + "\x1b[2;1H\x1b[4X", "abc|...|ghi|1,0"}, {3, 3, full + "\x1b[2;3H\x1b[65535X", "abc|de.|ghi|1,2"},
		// Half a wide rune is none.
		{1, 4, "\u6f22\u6f22\x1b[2G\x1b[K", "....|0,1"}, {1, 4, "\u6f22\u6f22\x1b[3G\x1b[1K", "....|0,2"}, {1, 4, "\u6f22\u6f22\x1b[2G\x1b[1K", "..LR|0,1"}, {1, 4, "\u6f22\u6f22\x1b[2G\x1b[X", "..LR|0,1"}, {1, 4, "\u6f22\u6f22\x1b[2G\x1b[2X", "....|0,1"}, {1, 4, "\u6f22\u6f22\x1b[3G\x1b[X", "LR..|0,2"}, {2, 2, "\u6f22\u6f22\x1b[1;2H\x1b[J", "..|..|0,1"}, {2, 2, "\u6f22\u6f22\x1b[2;1H\x1b[1J", "..|..|1,0"},
		// Whatever look there is: what is erased has none. A region doesn't hold it.
		{1, 3, "\x1b[7mabc\x1b[2G\x1b[K", "a..|0,1"}, {3, 1, "\x1b[1;2ra\r\nb\x1b[3;1Hc\x1b[2J", ".|.|.|2,0"},
		{1, 1, "a\x1b[J", ".|0,0"}, {1, 1, "a\x1b[1K", ".|0,0"}, {1, 1, "a\x1b[9X", ".|0,0"},
		// No wrap waits, even where nothing is erased.
		{1, 2, "ab\x1b[3J", "ab|0,1"}, {1, 2, "ab\x1b[9K", "ab|0,1"}, {1, 2, "ab\x1b[X", "a.|0,1"},
	})
}

// P9.4: rows and cells that come and go

func TestRowsByHand(t *testing.T) {
	four := "a\r\nb\r\nc\r\nd"
	wantShown(t, []shown{
		{4, 2, four + "\x1b[2;2H\x1b[L", "a.|..|b.|c.|1,0"}, {4, 2, four + "\x1b[2;2H\x1b[2L", "a.|..|..|b.|1,0"}, {4, 2, four + "\x1b[2;2H\x1b[9L", "a.|..|..|..|1,0"}, {4, 2, four + "\x1b[L", "a.|b.|c.|..|3,0"}, {4, 2, four + "\x1b[H\x1b[0L", "..|a.|b.|c.|0,0"},
		{4, 2, four + "\x1b[2;2H\x1b[M", "a.|c.|d.|..|1,0"}, {4, 2, four + "\x1b[2;2H\x1b[2M", "a.|d.|..|..|1,0"}, {4, 2, four + "\x1b[2;2H\x1b[65535M", "a.|..|..|..|1,0"}, {4, 2, four + "\x1b[M", "a.|b.|c.|..|3,0"},
		{4, 2, four + "\x1b[2;3r\x1b[2;2H\x1b[L", "a.|..|b.|d.|1,0"}, {4, 2, four + "\x1b[2;3r\x1b[3;2H\x1b[L", "a.|b.|..|d.|2,0"}, {4, 2, four + "\x1b[2;3r\x1b[2;2H\x1b[M", "a.|c.|..|d.|1,0"}, {4, 2, four + "\x1b[2;3r\x1b[3;2H\x1b[9M", "a.|b.|..|d.|2,0"},
		// Outside the region nothing but the wrap goes.
		{4, 2, four + "\x1b[2;3r\x1b[1;2H\x1b[L", "a.|b.|c.|d.|0,1"}, {4, 2, four + "\x1b[2;3r\x1b[4;2H\x1b[L", "a.|b.|c.|d.|3,1"}, {4, 2, four + "\x1b[2;3r\x1b[1;2H\x1b[M", "a.|b.|c.|d.|0,1"}, {4, 2, four + "\x1b[2;3r\x1b[4;2H\x1b[M", "a.|b.|c.|d.|3,1"}, {4, 2, four + "\x1b[2;3r\x1b[1;2Hz\x1b[L", "az|b.|c.|d.|0,1"}, {4, 2, four + "\x1b[2;3r\x1b[4;2Hz\x1b[M", "a.|b.|c.|dz|3,1"},
		{4, 2, four + "\x1b[1;2Hz\x1b[L", "..|az|b.|c.|0,0"},
		{4, 2, four + "\x1b[S", "b.|c.|d.|..|3,1"}, {4, 2, four + "\x1b[2S", "c.|d.|..|..|3,1"}, {4, 2, four + "\x1b[4S", "..|..|..|..|3,1"}, {4, 2, four + "\x1b[T", "..|a.|b.|c.|3,1"}, {4, 2, four + "\x1b[3T", "..|..|..|a.|3,1"}, {4, 2, four + "\x1b[9T", "..|..|..|..|3,1"},
		{4, 2, four + "\x1b[2;3r\x1b[S", "a.|c.|..|d.|0,0"}, {4, 2, four + "\x1b[2;3r\x1b[T", "a.|..|b.|d.|0,0"}, {4, 2, four + "z\x1b[S", "b.|c.|dz|..|3,1"}, {4, 2, four + "z\x1b[0T", "..|a.|b.|c.|3,1"},
		{1, 2, "ab\x1b[L", "..|0,0"}, {1, 2, "ab\x1b[M", "..|0,0"}, {1, 2, "ab\x1b[S", "..|0,1"}, {1, 2, "ab\x1b[T", "..|0,1"},
		{1, 4, "abcd\x1b[2G\x1b[@", "a.bc|0,1"}, {1, 4, "abcd\x1b[2G\x1b[2@", "a..b|0,1"}, {1, 4, "abcd\x1b[2G\x1b[3@", "a...|0,1"}, {1, 4, "abcd\x1b[2G\x1b[4@", "a...|0,1"}, {1, 4, "abcd\x1b[0@", "abc.|0,3"}, {1, 4, "abcd\r\x1b[@", ".abc|0,0"},
		{1, 4, "abcd\x1b[2G\x1b[P", "acd.|0,1"}, {1, 4, "abcd\x1b[2G\x1b[2P", "ad..|0,1"}, {1, 4, "abcd\x1b[2G\x1b[3P", "a...|0,1"}, {1, 4, "abcd\x1b[2G\x1b[65535P", "a...|0,1"}, {1, 4, "abcd\x1b[P", "abc.|0,3"}, {1, 4, "abcd\r\x1b[P", "bcd.|0,0"},
		{1, 4, "\u6f22\u6f22\x1b[2G\x1b[@", "....|0,1"}, {1, 4, "\u6f22\u6f22\r\x1b[@", ".LR.|0,0"}, {1, 4, "\u6f22\u6f22\r\x1b[P", ".LR.|0,0"}, {1, 4, "\u6f22\u6f22\r\x1b[2P", "LR..|0,0"}, {1, 4, "\u6f22\u6f22\x1b[2G\x1b[P", ".LR.|0,1"}, {1, 4, "\u6f22\u6f22\x1b[2G\x1b[2P", "LR..|0,1"},
		{2, 2, "abcd\x1b[1;1H\x1b[@", ".a|cd|0,0"}, {2, 2, "abcd\x1b[1;1H\x1b[P", "b.|cd|0,0"}, {3, 2, "abcdef\x1b[1;2r\x1b[3;1H\x1b[P", "ab|cd|f.|2,0"}, {1, 1, "a\x1b[@", ".|0,0"}, {1, 1, "a\x1b[P", ".|0,0"},
	})
}

// P9.4: which rows scroll

func TestRegionsByHand(t *testing.T) {
	for _, x := range []struct {
		rows        int
		b           string
		top, bottom int
		taken       bool
	}{
		{4, "\x1b[r", 0, 3, true}, {4, "\x1b[0r", 0, 3, true}, {4, "\x1b[1r", 0, 3, true}, {4, "\x1b[;r", 0, 3, true}, {4, "\x1b[0;0r", 0, 3, true}, {4, "\x1b[1;4r", 0, 3, true}, {4, "\x1b[1;5r", 0, 3, true}, {4, "\x1b[1;99999r", 0, 3, true},
		{4, "\x1b[2r", 1, 3, true}, {4, "\x1b[3r", 2, 3, true}, {4, "\x1b[3;4r", 2, 3, true}, {4, "\x1b[3;0r", 2, 3, true}, {4, "\x1b[3;9r", 2, 3, true}, {4, "\x1b[1;2r", 0, 1, true}, {4, "\x1b[;2r", 0, 1, true}, {4, "\x1b[0;2r", 0, 1, true}, {4, "\x1b[2;3r", 1, 2, true}, {4, "\x1b[2;3;1r", 1, 2, true},
		{4, "\x1b[4r", 0, 3, false}, {4, "\x1b[4;4r", 0, 3, false}, {4, "\x1b[5r", 0, 3, false}, {4, "\x1b[5;9r", 0, 3, false}, {4, "\x1b[99999;99999r", 0, 3, false}, {4, "\x1b[1;1r", 0, 3, false}, {4, "\x1b[;1r", 0, 3, false}, {4, "\x1b[3;2r", 0, 3, false}, {4, "\x1b[2;2r", 0, 3, false}, {4, "\x1b[4;1r", 0, 3, false},
		{2, "\x1b[r", 0, 1, true}, {2, "\x1b[1;2r", 0, 1, true}, {2, "\x1b[2r", 0, 1, false}, {2, "\x1b[1;1r", 0, 1, false},
		{1, "\x1b[r", 0, 0, false}, {1, "\x1b[1;1r", 0, 0, false}, {1, "\x1b[1;2r", 0, 0, false}, {1, "\x1b[2;1r", 0, 0, false},
	} {
		s := Feed(wantedNew(x.rows, 2), []byte("\x1b[9;2Hz"+x.b))
		atHome := s.Y == 0 && s.X == 0 && !s.Wrap
		stayed := s.Y == x.rows-1 && s.X == 1 && s.Wrap
		if s.Top != x.top || s.Bottom != x.bottom || x.taken && !atHome || !x.taken && !stayed {
			t.Errorf("%d rows, %q: %s %s", x.rows, x.b, told(s), rest(s))
		}
	}
	// One that is refused leaves the one there was.
	s := Feed(wantedNew(4, 2), []byte("\x1b[2;3r\x1b[4;4r\x1b[3;1r"))
	if s.Top != 1 || s.Bottom != 2 {
		t.Errorf("behind refused ones: %d to %d", s.Top, s.Bottom)
	}
	if s = Feed(s, []byte("\x1b[r")); s.Top != 0 || s.Bottom != 3 {
		t.Errorf("all rows again: %d to %d", s.Top, s.Bottom)
	}
}

// P9.4: tabs

func TestTabsByHand(t *testing.T) {
	start := "\x1b[4G\x1bH\x1b[9G"
	for b, want := range map[string]string{
		"":        " 0 3 8 16",
		"\x1b[g":  " 0 3 16",
		"\x1b[0g": " 0 3 16", "\x1b[0;3g": " 0 3 16",
		"\x1b[3g": "", "\x1b[3;0g": "",
		"\x1b[1g": " 0 3 8 16", "\x1b[2g": " 0 3 8 16", "\x1b[4g": " 0 3 8 16", "\x1b[5g": " 0 3 8 16",
		"\x1b[D\x1b[g":                    " 0 3 8 16",
		"\x1b[3g\x1bH":                    " 8",
		"\x1b[3g\x1b[99G\x1bH":            " 16",
		"\x1bH":                           " 0 3 8 16",
		"\x1b[g\x1bH":                     " 0 3 8 16",
		"\x1b[2;1H\x1b[g":                 " 3 8 16",
		"\x1b[G\x1b[g\x1b[4G\x1b[g\x1b[g": " 8 16",
	} {
		s := Feed(wantedNew(2, 17), []byte(start+b))
		got := ""
		for x, on := range s.Tabs {
			if on {
				got += fmt.Sprintf(" %d", x)
			}
		}
		if got != want {
			t.Errorf("%q:%s; want%s", b, got, want)
		}
	}
	// A wrap that waits goes on waiting.
	for _, b := range []string{"\x1b[g", "\x1b[3g", "\x1b[1g"} {
		wantShown(t, []shown{{1, 2, "ab" + b, "ab|0,1w"}})
	}
}

// P9.4: private modes

func TestModesByHand(t *testing.T) {
	type modes struct{ auto, shown, alt bool }
	for b, want := range map[string]modes{
		"":           {true, true, false},
		"\x1b[?7l":   {false, true, false},
		"\x1b[?25l":  {true, false, false},
		"\x1b[?7h":   {true, true, false},
		"\x1b[?25h":  {true, true, false},
		"\x1b[?7;2l": {false, true, false}, "\x1b[?2;7l": {false, true, false}, "\x1b[?7;25l": {false, false, false}, "\x1b[?25;7l": {false, false, false}, "\x1b[?25;7l\x1b[?7h": {true, false, false}, "\x1b[?25;7l\x1b[?25h": {false, true, false},
		"\x1b[?1049h": {true, true, true}, "\x1b[?1049l": {true, true, false}, "\x1b[?7;25;1049l": {false, false, false}, "\x1b[?1049;7h": {true, true, true}, "\x1b[?25;1049l\x1b[?1049h": {true, false, true}, "\x1b[?1049h\x1b[?1049;25;7l": {false, false, false}, "\x1b[?1049;1049h": {true, true, true},
		// Not private, another Private, with Inter, no numbers, no such ones.
		"\x1b[7l": {true, true, false}, "\x1b[25l": {true, true, false}, "\x1b[1049h": {true, true, false}, "\x1b[>7l": {true, true, false}, "\x1b[=25l": {true, true, false}, "\x1b[<1049h": {true, true, false}, "\x1b[?7$l": {true, true, false}, "\x1b[?1049 h": {true, true, false}, "\x1b[?l": {true, true, false}, "\x1b[?h": {true, true, false}, "\x1b[?0l": {true, true, false}, "\x1b[?1;47;1047;1048h": {true, true, false}, "\x1b[?7m": {true, true, false}, "\x1b[?7r": {true, true, false}, "\x1b[?7;25i": {true, true, false},
	} {
		s := Feed(wantedNew(2, 2), []byte(b))
		if got := (modes{s.Auto, s.Shown, s.Alt}); got != want {
			t.Errorf("%q: %v; want %v", b, got, want)
		}
	}
	// Nothing of the usual ones is done by a private one, or with Inter.
	for _, b := range []string{"A", "B", "C", "D", "G", "`", "d", "H", "f", "J", "2J", "K", "L", "M", "@", "P", "X", "S", "T", "1;2r", "g", "3g", "7m", "m"} {
		for _, private := range []string{"?", ">", "=", "<"} {
			s := behind(3, 2, "\x1b[1mab")
			wantSame(t, Feed(s, []byte("\x1b["+private+b)), s, "Feed", private, b)
		}
		for _, inter := range []string{" ", "!", "$\""} {
			s := behind(3, 2, "\x1b[1mab")
			wantSame(t, Feed(s, []byte("\x1b["+b[:len(b)-1]+inter+b[len(b)-1:])), s, "Feed", b, inter)
		}
	}
}

func TestOtherCellsByHand(t *testing.T) {
	on, off := "\x1b[?1049h", "\x1b[?1049l"
	wantShown(t, []shown{
		{2, 2, "abc" + on, "..|..|1,1"}, {2, 2, "abc" + on + "z", "..|.z|1,1w"}, {2, 2, "abc" + on + "z" + off, "ab|c.|1,1"}, {2, 2, "abc" + on + "z" + off + "d", "ab|cd|1,1w"}, {2, 2, "abc" + on + "\x1b[Hz" + off + on, "..|..|1,1"},
		// Kept twice: the first ones stay kept. Left twice, left without having been kept: nothing.
		{2, 2, "abc" + on + "z" + on, "..|.z|1,1w"}, {2, 2, "abc" + on + "z" + on + off, "ab|c.|1,1"}, {2, 2, "abc" + off, "ab|c.|1,1"}, {2, 2, "abc" + on + off + off, "ab|c.|1,1"}, {2, 2, "abc\x1b[?1049;1049hz" + off, "ab|c.|1,1"}, {2, 2, "abcd" + off, "ab|cd|1,1w"}, {2, 2, "abc" + on + off + "\x1b[Hz" + off, "zb|c.|0,1"},
		// No wrap waits behind it.
		{2, 2, "ab" + on, "..|..|0,1"}, {2, 2, "ab" + on + "c", ".c|..|0,1w"}, {2, 2, "a" + on + "\x1b[Hbc" + off, "a.|..|0,1"}, {2, 2, "a" + on + "bc" + off + "d", "ad|..|0,1w"},
		{2, 2, "abcd\x1b[?25l", "ab|cd|1,1w"}, {2, 2, "abcd\x1b[?7l", "ab|cd|1,1w"}, {2, 2, "abcd\x1b[?1l", "ab|cd|1,1w"},
		// A reset forgets them.
		{2, 2, "abc" + on + "\x1bcz" + off, "z.|..|0,1"},
		{1, 1, "a" + on + "b" + off, "a|0,0"},
	})
	// The look, the region and the tabs are not kept with them.
	s := Feed(wantedNew(3, 9), []byte("\x1b[1m\x1b[?1049h\x1b[4;31m\x1b[2;3r\x1b[3g\x1b[?7;25l\x1b[?1049l"))
	if got := rest(s); got != "23 1-2 saved 0,0,0 auto false shown false alt false 0,0 tabs" || len(s.Other) != 0 {
		t.Errorf("%s, %d kept", got, len(s.Other))
	}
	// Over another size.
	s, _ = Size(Feed(wantedNew(2, 4), []byte("\u6f22\u5b57ab"+on+"\x1b[Hxyzt")), 1, 3)
	if told(s) != "xyz|0,2" || told(Feed(s, []byte(off))) != "LR.|0,2" {
		t.Errorf("%s, then %s", told(s), told(Feed(s, []byte(off))))
	}
	s, _ = Size(Feed(wantedNew(1, 2), []byte("a"+on)), 2, 3)
	if got := told(Feed(s, []byte("\x1b[2;3Hb"+off))); got != "a..|...|0,1" {
		t.Error(got)
	}
}

// P9.5: 'm'

func TestLooksByHand(t *testing.T) {
	want := map[string]uint16{
		"m": 0, "0m": 0, "1m": 1, "4m": 2, "7m": 4, "1;4;7m": 7, "7;4;1m": 7, "1;1m": 1,
		"1;4;7;22m": 6, "1;4;7;24m": 5, "1;4;7;27m": 3, "22m": 0, "24;27m": 0, "1;4;7;22;24;27m": 0,
		"30m": 0x10, "31m": 0x20, "32m": 0x30, "33m": 0x40, "34m": 0x50, "35m": 0x60, "36m": 0x70, "37m": 0x80, "37;39m": 0, "39m": 0,
		"40m": 0x100, "41m": 0x200, "42m": 0x300, "43m": 0x400, "44m": 0x500, "45m": 0x600, "46m": 0x700, "47m": 0x800, "47;49m": 0, "49m": 0,
		"31;42m": 0x320, "31;42;39m": 0x300, "31;42;49m": 0x20, "37;30m": 0x10, "30;37m": 0x80, "47;40m": 0x100, "1;37;47;4m": 0x883,
		"1;0m": 0, "0;1m": 1, "1;;4m": 2, "1;m": 0, ";1m": 1, "31;42;7;0;34m": 0x50, "1;4;7;37;47;0m": 0,
		"2m": 0, "3m": 0, "5m": 0, "6m": 0, "8m": 0, "9m": 0, "21m": 0, "23m": 0, "25m": 0, "29m": 0, "38m": 0, "48m": 0, "50m": 0, "90m": 0, "97m": 0, "100m": 0, "107m": 0, "65535m": 0,
		"1;38;5;31m": 0x21, "4;48;2;7m": 6, "1;99;4m": 3,
	}
	for b, attr := range want {
		s := Feed(wantedNew(1, 2), []byte("\x1b["+b+"a"))
		if s.Attr != attr || s.Cells[0] != (api.Cell{R: 'a', Attr: attr}) || s.Cells[1] != none {
			t.Errorf("%q: %x, %v; want %x", b, s.Attr, s.Cells, attr)
		}
	}
	// Each over all others; what was written stays as it was written.
	s := Feed(wantedNew(1, 9), []byte("\x1b[1;4;7;31;42ma\x1b[22mb\x1b[39mc\x1b[24;45md\x1b[49me\x1b[27mf\x1b[36mg\x1b[0mh"))
	got := ""
	for _, c := range s.Cells {
		got += fmt.Sprintf("%c%x ", c.R, c.Attr)
	}
	if got != "a327 b326 c306 d604 e4 f0 g70 h0  0 " {
		t.Error(got)
	}
	wantShown(t, []shown{{1, 2, "ab\x1b[1m", "ab|0,1w"}, {1, 2, "ab\x1b[m", "ab|0,1w"}})
}

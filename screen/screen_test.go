package screen

import (
	"fmt"
	"math"
	"math/rand"
	"slices"
	"strings"
	"testing"

	"reprise/api"
)

// P9.1: New

func TestNew(t *testing.T) {
	sizes := []int{math.MinInt, -1000, -1, 0, 1, 2, 3, 8, 9, 80, 999, 1000, 1001, 1 << 32, math.MaxInt}
	for _, rows := range sizes {
		for _, cols := range sizes {
			s, errno := New(rows, cols)
			if rows < 1 || rows > 1000 || cols < 1 || cols > 1000 {
				if errno != api.ErrSize || !same(s, api.Screen{}) {
					t.Errorf("New(%d, %d): %d, and a screen of %d rows; want ErrSize, and nothing", rows, cols, errno, s.Rows)
				}
				continue
			}
			if errno != api.OK {
				t.Fatalf("New(%d, %d): %d", rows, cols, errno)
			}
			wantSame(t, s, wantedNew(rows, cols), "New", rows, cols)
			if !Right(s) {
				t.Errorf("New(%d, %d) isn't Right", rows, cols)
			}
		}
	}
}

func TestNewByHand(t *testing.T) {
	s, _ := New(2, 18)
	if got := told(s) + " " + rest(s); got != "..................|..................|0,0 0 0-1 saved 0,0,0 auto true shown true alt false 0,0 tabs 0 8 16" {
		t.Error(got)
	}
	s, _ = New(1, 1)
	if got := told(s) + " " + rest(s); got != ".|0,0 0 0-0 saved 0,0,0 auto true shown true alt false 0,0 tabs 0" {
		t.Error(got)
	}
	s.Cells[0].R, s.Tabs[0] = 'z', false
	if s, _ = New(1, 1); s.Cells[0].R != ' ' || !s.Tabs[0] {
		t.Error("New answers what it answered before")
	}
}

// P9.1: Right

// full: a screen of three rows and nine columns in which nothing is as it was at first.
func full() api.Screen {
	return behind(3, 9, "\x1b[1;31mab\u6f22\x1b7\x1b[2;3r\x1b[2;9H\x1b[?1049h\x1b[?25l\x1b[3;8H\x1bH\x1b[1;44m\u6f22\x1b[1;2;3$\xe6\x18")
}

func TestRightKept(t *testing.T) {
	if s := full(); !s.Alt || !s.Wrap || s.Top != 1 || s.Shown || s.SavedX != 4 || s.OtherX != 8 || s.Attr != 0x521 {
		t.Fatalf("not full: %s %s", told(s), rest(s))
	}
	for name, change := range map[string]func(s *api.Screen){
		"as it is":          func(s *api.Screen) {},
		"no wrap":           func(s *api.Screen) { s.Wrap = false },
		"a wrap, no Auto":   func(s *api.Screen) { s.Auto = false },
		"first place":       func(s *api.Screen) { s.Y, s.X, s.Wrap = 0, 0, false },
		"last places":       func(s *api.Screen) { s.Y, s.X, s.SavedY, s.SavedX, s.OtherY, s.OtherX = 2, 8, 2, 8, 2, 8 },
		"first other place": func(s *api.Screen) { s.OtherY, s.OtherX = 0, 0 },
		"greatest look":     func(s *api.Screen) { s.Attr, s.SavedAttr = 0x887, 0x887 },
		"no look":           func(s *api.Screen) { s.Attr, s.SavedAttr = 0, 0 },
		"two rows, above":   func(s *api.Screen) { s.Top, s.Bottom = 0, 1 },
		"two rows, below":   func(s *api.Screen) { s.Top, s.Bottom = 1, 2 },
		"all rows":          func(s *api.Screen) { s.Top, s.Bottom = 0, 2 },
		"no tab":            func(s *api.Screen) { s.Tabs = make([]bool, 9) },
		"none kept": func(s *api.Screen) {
			s.Alt, s.Other, s.OtherY, s.OtherX = false, nil, 0, 0
		},
		"an empty list kept": func(s *api.Screen) {
			s.Alt, s.Other, s.OtherY, s.OtherX = false, []api.Cell{}, 0, 0
		},
		"halves of unlike looks": func(s *api.Screen) { s.Cells[0], s.Cells[1] = api.Cell{R: 'a', Attr: 1, Half: 1}, api.Cell{Half: 2} },
		"a rune within":          func(s *api.Screen) { s.P = api.Parser{Utf: []byte("\xe6\xbc")} },
		"a sequence within": func(s *api.Screen) {
			s.P = api.Parser{Mode: api.CsiInter, Private: '?', Params: []int{0, 65535}, Inter: []byte("!")}
		},
	} {
		s := full()
		change(&s)
		if !Right(s) {
			t.Errorf("%s: not Right", name)
		}
	}
}

// wrongs: what breaks one rule of Right alone.
func wrongs() map[string]func(s *api.Screen) {
	out := map[string]func(s *api.Screen){
		"a row more":      func(s *api.Screen) { s.Rows++ },
		"a row less":      func(s *api.Screen) { s.Rows--; s.Y, s.Bottom = 1, 1; s.Top = 0 },
		"a column more":   func(s *api.Screen) { s.Cols++; s.Tabs = append(s.Tabs, false); s.Wrap = false },
		"a cell more":     func(s *api.Screen) { s.Cells = append(s.Cells, none) },
		"a cell less":     func(s *api.Screen) { s.Cells = s.Cells[:26] },
		"no cells":        func(s *api.Screen) { s.Cells = nil },
		"rows and cols":   func(s *api.Screen) { s.Rows, s.Cols = -3, -9 },
		"wrap elsewhere":  func(s *api.Screen) { s.X = 7 },
		"a tab more":      func(s *api.Screen) { s.Tabs = append(s.Tabs, false) },
		"a tab less":      func(s *api.Screen) { s.Tabs = s.Tabs[:8] },
		"no tabs":         func(s *api.Screen) { s.Tabs = nil },
		"top is bottom":   func(s *api.Screen) { s.Top = 2 },
		"both 0":          func(s *api.Screen) { s.Top, s.Bottom = 0, 0 },
		"top beyond":      func(s *api.Screen) { s.Top, s.Bottom = 2, 1 },
		"top above":       func(s *api.Screen) { s.Top = -1 },
		"bottom below":    func(s *api.Screen) { s.Bottom = 3 },
		"not Alt":         func(s *api.Screen) { s.Alt = false },
		"not Alt, no 0,0": func(s *api.Screen) { s.Alt, s.Other, s.OtherX = false, nil, 0; s.OtherY = 1 },
		"not Alt, X":      func(s *api.Screen) { s.Alt, s.Other, s.OtherY = false, nil, 0; s.OtherX = 1 },
		"not Alt, cells":  func(s *api.Screen) { s.Alt, s.OtherY, s.OtherX = false, 0, 0 },
		"no other cells":  func(s *api.Screen) { s.Other = nil },
		"an other less":   func(s *api.Screen) { s.Other = s.Other[:26] },
		"an other more":   func(s *api.Screen) { s.Other = append(s.Other, none) },
		"a parser's mode": func(s *api.Screen) { s.P.Mode = 8 },
		"a parser's utf":  func(s *api.Screen) { s.P.Utf = []byte("a") },
		"a parser's list": func(s *api.Screen) { s.P.Params = []int{1} },
	}
	for name, place := range map[string]func(s *api.Screen) (*int, *int){
		"the cursor":       func(s *api.Screen) (*int, *int) { s.Wrap = false; return &s.Y, &s.X },
		"the saved cursor": func(s *api.Screen) (*int, *int) { return &s.SavedY, &s.SavedX },
		"the other cursor": func(s *api.Screen) (*int, *int) { return &s.OtherY, &s.OtherX },
	} {
		for _, n := range []int{math.MinInt, -1, 3, math.MaxInt} {
			out[fmt.Sprintf("%s at row %d", name, n)] = func(s *api.Screen) { y, _ := place(s); *y = n }
		}
		for _, n := range []int{math.MinInt, -1, 9, math.MaxInt} {
			out[fmt.Sprintf("%s at column %d", name, n)] = func(s *api.Screen) { _, x := place(s); *x = n }
		}
	}
	for _, attr := range []uint16{8, 0x90, 0x900, 0xf0, 0x1000, 0xffff} {
		out[fmt.Sprintf("look %x", attr)] = func(s *api.Screen) { s.Attr = attr }
		out[fmt.Sprintf("saved look %x", attr)] = func(s *api.Screen) { s.SavedAttr = attr }
		out[fmt.Sprintf("a cell's look %x", attr)] = func(s *api.Screen) { s.Cells[26-2].Attr = attr }
	}
	for name, cells := range map[string]string{"a left half": "L", "a right half": "R", "wrong order": "RL", "three halves": "LRR", "no rune": "0", "a half of a third kind": "3"} {
		for _, x := range []int{0, 9, 18 - len(cells)} {
			out[fmt.Sprintf("%s at %d", name, x)] = func(s *api.Screen) { lay(s.Cells[x:], cells) }
			out[fmt.Sprintf("%s at %d, other", name, x)] = func(s *api.Screen) { lay(s.Other[x:], cells) }
		}
	}
	for _, x := range []int{8, 17} {
		out[fmt.Sprintf("halves in two rows at %d", x)] = func(s *api.Screen) { lay(s.Cells[x:], "LR") }
		out[fmt.Sprintf("halves in two rows at %d, other", x)] = func(s *api.Screen) { lay(s.Other[x:], "LR") }
	}
	return out
}

func lay(l []api.Cell, cells string) {
	for i, r := range cells {
		l[i] = map[rune]api.Cell{'L': {R: 0x6f22, Half: 1}, 'R': {Half: 2}, '0': {}, '3': {R: 'a', Half: 3}}[r]
	}
}

func TestRightRefused(t *testing.T) {
	for name, change := range wrongs() {
		s := full()
		change(&s)
		if Right(s) {
			t.Errorf("%s: Right", name)
		}
	}
	if Right(api.Screen{}) {
		t.Error("the zero screen: Right")
	}
}

// TestRightSizes: rows and columns have their limits, however many cells there are.
func TestRightSizes(t *testing.T) {
	for _, n := range [][2]int{{1, 1}, {1, 1000}, {1000, 1}, {1000, 1000}, {0, 0}, {0, 5}, {5, 0}, {1, 1001}, {1001, 1}, {-1, -1}, {1 << 32, 1 << 32}} {
		// Where their product wraps round it comes to no cells.
		s := api.Screen{Rows: n[0], Cols: n[1]}
		if max(n[0], n[1]) <= 1001 {
			s = wantedNew(n[0], n[1])
		}
		want := n[0] >= 1 && n[0] <= 1000 && n[1] >= 1 && n[1] <= 1000
		if Right(s) != want {
			t.Errorf("Right of %v: %t", n, !want)
		}
	}
}

func TestRightOfOneRow(t *testing.T) {
	for top := -1; top <= 1; top++ {
		for bottom := -1; bottom <= 1; bottom++ {
			s := wantedNew(1, 3)
			s.Top, s.Bottom = top, bottom
			if Right(s) != (top == 0 && bottom == 0) {
				t.Errorf("one row, %d to %d: %t", top, bottom, Right(s))
			}
		}
	}
	s := wantedNew(2, 3)
	s.Bottom = 0
	if Right(s) {
		t.Error("two rows, 0 to 0: Right")
	}
}

// P9.1: Row

func TestRow(t *testing.T) {
	s := behind(3, 4, "ab\u6f22\r\n\nc")
	for y, want := range []string{"abLR|0,0", "....|0,0", "c...|0,0"} {
		if got := told(api.Screen{Rows: 1, Cols: 4, Cells: Row(s, y)}); got != want {
			t.Errorf("Row %d: %s; want %s", y, got, want)
		}
	}
	for _, y := range []int{math.MinInt, -1, 3, 4, 1000, 1 << 62, math.MaxInt} {
		if l := Row(s, y); len(l) != 0 {
			t.Errorf("Row %d: %v", y, l)
		}
	}
	l := Row(s, 0)
	clear(l[:cap(l)])
	if told(s) != "abLR|....|c...|2,1" {
		t.Errorf("behind a change of what Row answered: %s", told(s))
	}
}

// TestRowOfNoScreen: of sizes that come to the number of cells only where ints wrap round, and of others that can't be.
func TestRowOfNoScreen(t *testing.T) {
	for _, n := range [][2]int{{1 << 62, 4}, {4, 1 << 62}, {1 << 32, 1 << 32}, {0, 0}, {-1, 0}, {2, 0}, {0, 2}, {1, 1}, {math.MaxInt, math.MaxInt}} {
		for _, y := range []int{-1, 0, 1, 2, 1 << 31} {
			if l := Row(api.Screen{Rows: n[0], Cols: n[1]}, y); len(l) != 0 {
				t.Errorf("Row %d of %v: %v", y, n, l)
			}
		}
	}
	for _, n := range [][2]int{{-1, -4}, {-2, -2}, {1, 3}, {3, 1}} {
		if l := Row(api.Screen{Rows: n[0], Cols: n[1], Cells: make([]api.Cell, 4)}, 0); len(l) != 0 {
			t.Errorf("Row 0 of %v, four cells: %v", n, l)
		}
	}
}

// P9.1, P9.6: Feed

// wantFeed holds Feed against the promises, and answers what it answered.
func wantFeed(t *testing.T, s api.Screen, b string) api.Screen {
	t.Helper()
	was := clone(s)
	got := Feed(s, []byte(b))
	wantSame(t, got, wantedFeed(s, []byte(b)), "Feed", told(was), rest(was), b)
	wantSame(t, s, was, "changed by Feed", b)
	if !Right(got) {
		t.Fatalf("Feed %q of %s: not Right: %s %s", b, told(was), told(got), rest(got))
	}
	return got
}

// TestAnyBytes: walks over screens of many sizes, piece by piece.
func TestAnyBytes(t *testing.T) {
	r := rand.New(rand.NewSource(1))
	sizes := [][2]int{{1, 1}, {1, 2}, {2, 1}, {1, 9}, {2, 2}, {2, 3}, {3, 2}, {3, 5}, {5, 4}, {4, 20}}
	for i := range 6000 {
		size := sizes[i%len(sizes)]
		s := wantedNew(size[0], size[1])
		for range 40 {
			s = wantFeed(t, s, aPiece(r))
		}
	}
}

// TestParted: bytes that are parted anywhere come to the same screen.
func TestParted(t *testing.T) {
	r := rand.New(rand.NewSource(2))
	for range 300 {
		s := wantedNew(1+r.Intn(4), 1+r.Intn(9))
		b := ""
		for range 1 + r.Intn(12) {
			b += aPiece(r)
		}
		want := wantFeed(t, s, b)
		singly := s
		for i := range len(b) {
			wantSame(t, Feed(Feed(s, []byte(b[:i])), []byte(b[i:])), want, "parted", b[:i], b[i:])
			singly = Feed(singly, []byte{b[i]})
		}
		wantSame(t, singly, want, "byte by byte", b)
		wantSame(t, Feed(s, []byte(b)), want, "once more", b)
	}
}

// TestPartedByHand: what is pending stays so between two Feeds.
func TestPartedByHand(t *testing.T) {
	for _, x := range []struct{ first, second, want string }{
		{"\xe6\xbc", "\xa2", "LR..|0,2"},
		{"\xe6\xbc", "a", "\ufffda..|0,2"},
		{"\xe6\xbc", "\x1b[1Ca", "\ufffd.a.|0,3"},
		{"ab\x1b", "7\x1b[Hc\x1b8d", "cbd.|0,3"},
		{"ab\x1b[", "Dc", "ac..|0,2"},
		{"ab\x1b[1", "0Dc", "cb..|0,1"},
		{"ab\x1b[1;", "4Hc", "ab.c|0,3w"},
		{"\x1b[?7", "labcde", "abce|0,3"},
		{"\x1b]0;", "abc\x07d", "d...|0,1"},
		{"\x1b]0;", "abc", "....|0,0"},
		{"\x1b[:", "1mX", "X...|0,1"},
		{"abcd", "", "abcd|0,3w"},
		{"", "", "....|0,0"},
	} {
		s, _ := New(1, 4)
		if got := told(Feed(Feed(s, []byte(x.first)), []byte(x.second))); got != x.want {
			t.Errorf("%q, %q: %q; want %q", x.first, x.second, got, x.want)
		}
		if got := told(Feed(s, []byte(x.first+x.second))); got != x.want {
			t.Errorf("%q: %q; want %q", x.first+x.second, got, x.want)
		}
	}
}

// TestParserOfFeed: the parser is as it is behind the bytes; Do leaves it alone.
func TestParserOfFeed(t *testing.T) {
	s, _ := New(1, 4)
	for _, b := range []string{"a\xe6\xbc", "\x1b", "\x1b(", "\x1b[?1;2", "\x1b[1!", "\x1b[:", "\x1bP", "\x1bc\x1b[7", "\x1bc"} {
		got := Feed(s, []byte(b))
		wantSame(t, got, wantedFeed(s, []byte(b)), "Feed", b)
		for _, a := range []api.Act{{R: 'x'}, {Kind: api.Ctl, B: 8}, {Kind: api.EscAct, B: '7'}, {Kind: api.CsiAct, B: 'J'}} {
			wantSame(t, Do(got, a), wantedDo(got, a), "Do", b, a)
		}
	}
	// A terminal's reset is New: whatever was pending isn't.
	pending := Feed(s, []byte("a\x1b[1;2"))
	wantSame(t, Do(pending, api.Act{Kind: api.EscAct, B: 'c'}), wantedNew(1, 4), "Do", "ESC c")
}

// P9.5: Size

func TestSizeByHand(t *testing.T) {
	for _, x := range []struct {
		rows, cols   int
		b            string
		rows2, cols2 int
		want, rest   string
	}{
		{2, 3, "abcde", 2, 3, "abc|de.|1,2", "0 0-1 saved 0,0,0 auto true shown true alt false 0,0 tabs 0"},
		{2, 3, "abcdef", 2, 3, "abc|def|1,2", "0 0-1 saved 0,0,0 auto true shown true alt false 0,0 tabs 0"},
		{2, 3, "abcdef\x1b7", 1, 2, "ab|0,1", "0 0-0 saved 0,1,0 auto true shown true alt false 0,0 tabs 0"},
		{2, 3, "abcdef\x1b7", 3, 9, "abc......|def......|.........|1,2", "0 0-2 saved 1,2,0 auto true shown true alt false 0,0 tabs 0 8"},
		{2, 3, "a\u6f22\x1b[7m", 2, 2, "a.|..|0,1", "4 0-1 saved 0,0,0 auto true shown true alt false 0,0 tabs 0"},
		{2, 3, "\x1b[?7;25l\x1b[3g\x1b[2GH\x1bH", 1, 17, ".H...............|0,2", "0 0-0 saved 0,0,0 auto false shown false alt false 0,0 tabs 2 8 16"},
		{3, 2, "\x1b[2;3r\x1b[3;2Ha", 3, 3, "...|...|.a.|2,1", "0 0-2 saved 0,0,0 auto true shown true alt false 0,0 tabs 0"},
		{3, 3, "abc\x1b[3;3H\x1b[?1049hz\x1b7\x1b[H", 2, 2, "..|..|0,0", "0 0-1 saved 1,1,0 auto true shown true alt true 1,1 tabs 0"},
		{1, 1, "a", 1, 1, "a|0,0", "0 0-0 saved 0,0,0 auto true shown true alt false 0,0 tabs 0"},
		{1, 1, "a", 2, 2, "a.|..|0,0", "0 0-1 saved 0,0,0 auto true shown true alt false 0,0 tabs 0"},
		{1, 17, "\x1b[g\x1b[9G\x1b[g", 1, 25, ".........................|0,8", "0 0-0 saved 0,0,0 auto true shown true alt false 0,0 tabs 16 24"},
		{1, 9, "\x1b[8G\x1bH", 1, 8, "........|0,7", "0 0-0 saved 0,0,0 auto true shown true alt false 0,0 tabs 0 7"},
	} {
		s, errno := Size(behind(x.rows, x.cols, x.b), x.rows2, x.cols2)
		if told(s) != x.want || rest(s) != x.rest || errno != api.OK {
			t.Errorf("%d %d %q, %d %d: %s %s %d", x.rows, x.cols, x.b, x.rows2, x.cols2, told(s), rest(s), errno)
		}
	}
	// The cells that are kept for later come to the size as well, their halves whole.
	s, _ := Size(behind(2, 3, "a\u6f22bc\x1b[?1049h\x1b[Hz"), 3, 2)
	if told(s) != "z.|..|..|0,1" || told(Feed(s, []byte("\x1b[?1049l"))) != "a.|bc|..|1,1" {
		t.Errorf("other cells: %s, %v", told(s), s.Other)
	}
}

// TestSizeEverywhere: screens of all kinds to all sizes, and what is fed to them then.
func TestSizeEverywhere(t *testing.T) {
	r := rand.New(rand.NewSource(3))
	for range 3000 {
		s := wantedNew(1+r.Intn(5), 1+r.Intn(20))
		for range r.Intn(30) {
			s = wantedFeed(s, []byte(aPiece(r)))
		}
		for range 3 {
			rows, cols := 1+r.Intn(5), 1+r.Intn(20)
			was := clone(s)
			got, errno := Size(s, rows, cols)
			wantSame(t, got, wantedSize(s, rows, cols), "Size", told(s), rest(s), rows, cols)
			wantSame(t, s, was, "changed by Size", rows, cols)
			if errno != api.OK || !Right(got) {
				t.Fatalf("Size of %s %s to %d, %d: %d, %s %s", told(s), rest(s), rows, cols, errno, told(got), rest(got))
			}
			s = wantFeed(t, got, aPiece(r))
		}
	}
}

func TestSizeRefused(t *testing.T) {
	wrong := []int{math.MinInt, -1000, -1, 0, 1001, 1 << 32, math.MaxInt}
	for _, s := range []api.Screen{full(), wantedNew(1, 1), {}} {
		for _, n := range wrong {
			for _, m := range append(wrong, 1, 3, 1000) {
				for _, size := range [][2]int{{n, m}, {m, n}} {
					if got, errno := Size(s, size[0], size[1]); errno != api.ErrSize || !same(got, api.Screen{}) {
						t.Errorf("Size %v: %d, %d rows", size, errno, got.Rows)
					}
				}
			}
		}
	}
	for _, size := range [][2]int{{1, 1}, {1, 1000}, {1000, 1}, {1000, 1000}} {
		got, errno := Size(full(), size[0], size[1])
		wantSame(t, got, wantedSize(full(), size[0], size[1]), "Size", size)
		if errno != api.OK {
			t.Errorf("Size %v: %d", size, errno)
		}
	}
}

func TestGreatestScreen(t *testing.T) {
	s, _ := New(1000, 1000)
	s = Feed(s, []byte("\x1b[1000;1000Ha\u6f22\x1b[Hb\x1bM\x1b[L\x1b[1000;999H\x1b[1Kc"))
	// Both a and the wide rune have gone beyond the last row.
	last, below := Row(s, 999), Row(s, 998)
	if s.Y != 999 || s.X != 999 || last[998].R != 'c' || last[999].R != ' ' || below[0].R != ' ' || Row(s, 2)[0].R != 'b' || !Right(s) {
		t.Errorf("%d,%d %v %v %t", s.Y, s.X, last[998:], below[0], Right(s))
	}
}

// What holds everywhere

// TestRefusedScreensEnd: of what Right refuses all calls end, none panics.
func TestRefusedScreensEnd(t *testing.T) {
	all := wrongs()
	for _, n := range []int{math.MinInt, -1, 8, 1001, 1 << 32, 1 << 62, math.MaxInt} {
		all[fmt.Sprintf("rows %d", n)] = func(s *api.Screen) { s.Rows = n }
		all[fmt.Sprintf("cols %d", n)] = func(s *api.Screen) { s.Cols = n }
		all[fmt.Sprintf("both %d", n)] = func(s *api.Screen) { s.Rows, s.Cols = n, n }
		all[fmt.Sprintf("nothing beside rows %d", n)] = func(s *api.Screen) { *s = api.Screen{Rows: n, Cols: n} }
		all[fmt.Sprintf("region %d", n)] = func(s *api.Screen) { s.Top, s.Bottom = n, n }
		all[fmt.Sprintf("mode %d", n)] = func(s *api.Screen) { s.P.Mode = n }
	}
	b := []byte("x\u6f22\n\t\x1b[J\x1b[1J\x1b[2K\x1b[2L\x1b[M\x1b[@\x1b[P\x1b[X\x1b[9;9H\x1bM\x1bH\x1b[g\x1b7\x1b8\x1b[S\x1b[T\x1b[r\x1b[?1049h\x1b[?1049lz\x1bcy")
	for name, change := range all {
		t.Run(name, func(t *testing.T) {
			s := full()
			change(&s)
			if Right(s) {
				t.Fatal("Right")
			}
			Feed(s, b)
			Size(s, 2, 2)
			Size(s, 1000, 1)
			for _, y := range []int{math.MinInt, -1, 0, 1, 2, 3, math.MaxInt} {
				Row(s, y)
			}
			for _, a := range everyAct() {
				Do(s, a)
			}
		})
	}
}

// roomy answers s with room behind each of its lists, and all of them with their room.
func roomy(s api.Screen) (api.Screen, func() string) {
	cells := append(slices.Clone(s.Cells), slices.Repeat([]api.Cell{{R: 'q', Attr: 7}}, 40)...)
	others := append(slices.Clone(s.Other), slices.Repeat([]api.Cell{{R: 'p', Attr: 6}}, 40)...)
	tabs := append(slices.Clone(s.Tabs), slices.Repeat([]bool{true}, 40)...)
	params := append(slices.Clone(s.P.Params), 91, 92, 93, 94)
	inter := append(slices.Clone(s.P.Inter), "wxyz"...)
	utf := append(slices.Clone(s.P.Utf), "stuv"...)
	out := s
	out.Cells, out.Other, out.Tabs = cells[:len(s.Cells)], others[:len(s.Other)], tabs[:len(s.Tabs)]
	out.P = api.Parser{Mode: s.P.Mode, Private: s.P.Private, Params: params[:len(s.P.Params)], Inter: inter[:len(s.P.Inter)], Utf: utf[:len(s.P.Utf)]}
	return out, func() string { return fmt.Sprint(cells, others, tabs, params, inter, utf) }
}

// scribble writes over all of a screen's lists and the room behind them.
func scribble(s api.Screen) {
	for _, l := range [][]api.Cell{s.Cells, s.Other} {
		l = l[:cap(l)]
		for i := range l {
			l[i] = api.Cell{R: '~', Attr: 0xffff, Half: 9}
		}
	}
	for i := range s.Tabs[:cap(s.Tabs)] {
		s.Tabs[:cap(s.Tabs)][i] = i%2 == 1
	}
	for i := range s.P.Params[:cap(s.P.Params)] {
		s.P.Params[:cap(s.P.Params)][i] = -77
	}
	for _, l := range [][]byte{s.P.Inter, s.P.Utf} {
		l = l[:cap(l)]
		for i := range l {
			l[i] = '~'
		}
	}
}

// someScreens: of several kinds, with something pending of each kind.
func someScreens() []api.Screen {
	out := []api.Screen{full(), wantedNew(2, 3), wantedNew(1, 1)}
	for _, b := range []string{"a\u6f22b", "\x1b[?1049hab", "abcdef", "a\xe6\xbc", "b\x1b[1;2", "\x1b[?1;2!", "\x1b(", "\x1b[?1049h\x1b[2J\x1b["} {
		out = append(out, behind(3, 4, b))
	}
	return out
}

// TestHandedInIsNeitherChangedNorKept: each call, of each kind of act; what is answered is new memory.
func TestHandedInIsNeitherChangedNorKept(t *testing.T) {
	calls := map[string]func(s api.Screen) api.Screen{
		"Size, as it was": func(s api.Screen) api.Screen { s, _ = Size(s, s.Rows, s.Cols); return s },
		"Size, less":      func(s api.Screen) api.Screen { s, _ = Size(s, 1, 1); return s },
		"Size, more":      func(s api.Screen) api.Screen { s, _ = Size(s, 4, 10); return s },
	}
	for _, b := range []string{"", "x", "\xa2", "3\u6f22\t\b\r\n\x1bM", "\x1b[2;3r\n\n\n\x1b[S\x1b[T\x1b[L\x1b[M\x1b[@\x1b[P\x1b[J\x1b[K\x1b[X", "\x1b[?1049h\x1b[?1049la", "\x1bc", "\x1bHz\x1b[g", "\x1b[3g", "\x1b[1;2;3", "\x1b[?1049h\xe6", "\"", ";4"} {
		calls[fmt.Sprintf("Feed %q", b)] = func(s api.Screen) api.Screen { return Feed(s, []byte(b)) }
	}
	for i, a := range everyAct() {
		calls[fmt.Sprintf("Do %d %v", i, a)] = func(s api.Screen) api.Screen { return Do(s, a) }
	}
	for name, call := range calls {
		for _, was := range someScreens() {
			s, all := roomy(was)
			before := all()
			first, second := call(s), call(s)
			want := clone(first)
			if all() != before {
				t.Fatalf("%s of %s: what was handed in is another", name, told(was))
			}
			scribble(first)
			if all() != before {
				t.Fatalf("%s of %s: what was answered is what was handed in", name, told(was))
			}
			wantSame(t, second, want, name+" the second time")
			scribble(s)
			wantSame(t, second, want, name+" behind a change of what was handed in")
			wantApart(t, second, name)
		}
	}
}

// wantApart: no two lists of an answer share any.
func wantApart(t *testing.T, s api.Screen, name string) {
	t.Helper()
	others := slices.Clone(s.Other)
	for i := range s.Cells[:cap(s.Cells)] {
		s.Cells[:cap(s.Cells)][i] = api.Cell{R: '~'}
	}
	if !slices.Equal(s.Other, others) {
		t.Fatalf("%s: Cells and Other are the same memory", name)
	}
	utf := slices.Clone(s.P.Utf)
	for i := range s.P.Inter[:cap(s.P.Inter)] {
		s.P.Inter[:cap(s.P.Inter)][i] = '~'
	}
	if !slices.Equal(s.P.Utf, utf) {
		t.Fatalf("%s: Inter and Utf are the same memory", name)
	}
}

// TestOneListTwice: a screen whose two lists of cells are one comes to one whose lists are two.
func TestOneListTwice(t *testing.T) {
	s := behind(1, 3, "\x1b[?1049h")
	s.Other = s.Cells
	s = Feed(s, []byte("ab"))
	if told(s) != "ab.|0,2" || told(Feed(s, []byte("\x1b[?1049l"))) != "...|0,0" {
		t.Errorf("%s, %v", told(s), s.Other)
	}
}

func TestBytesAndActsAreNeitherChangedNorKept(t *testing.T) {
	room := []byte("ab\x1b[?1;2!\x1b[1\"\xe6\xbcspare room")
	s, _ := New(2, 9)
	for size := range len(room) {
		before := string(room)
		got := Feed(s, room[:size])
		want := clone(got)
		if string(room) != before {
			t.Fatalf("Feed changed its bytes to %q", room)
		}
		spoilt := slices.Clone(room)
		got = Feed(s, spoilt[:size])
		clear(spoilt)
		wantSame(t, got, want, "Feed, its bytes changed behind it", before[:size])
	}
	params, inter := []int{1, 31, 99, 98}, []byte("!\"#")
	for _, b := range []byte("mHrJ") {
		a := api.Act{Kind: api.CsiAct, Params: params[:2], B: b}
		got := Do(s, a)
		if !slices.Equal(params, []int{1, 31, 99, 98}) {
			t.Fatalf("Do changed its numbers to %v", params)
		}
		wantSame(t, got, wantedDo(s, a), "Do", a)
		Do(s, api.Act{Kind: api.CsiAct, Inter: inter[:1], B: b})
		if string(inter) != "!\"#" {
			t.Fatalf("Do changed its Inter to %q", inter)
		}
	}
}

func FuzzFeed(f *testing.F) {
	f.Add(2, 3, "a\u6f22b\r\n\x1b[1;31mc", 3, 2)
	f.Add(3, 9, "\x1b[2;3r\x1b[3;9Ha\x1b7\x1b[?1049hb\x1b[?1049l\x1b8", 2, 4)
	f.Add(1, 1, "\u6f22\x1b[?7l\t\x1bH", 1, 17)
	f.Fuzz(func(t *testing.T, rows, cols int, b string, rows2, cols2 int) {
		near := func(n int) int { return 1 + int(uint(n)%20) }
		s := wantFeed(t, wantedNew(near(rows), near(cols)), b)
		got, _ := Size(s, near(rows2), near(cols2))
		wantSame(t, got, wantedSize(s, near(rows2), near(cols2)), "Size", told(s), rows2, cols2)
		wantFeed(t, got, strings.ToUpper(b))
	})
}

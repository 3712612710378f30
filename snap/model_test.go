package snap

import (
	"encoding/binary"
	"fmt"
	"math/rand"
	"reflect"
	"slices"
	"testing"

	"reprise/api"
	"reprise/screen"
)

// number answers a number as the library writes it.
func number(n uint64) string {
	return string(binary.AppendUvarint(nil, n))
}

func numbers(l ...int) string {
	out := ""
	for _, n := range l {
		out += number(uint64(n))
	}
	return out
}

// behind answers a screen of that size behind a text.
func behind(rows, cols int, text string) api.Screen {
	s, errno := screen.New(rows, cols)
	if errno != api.OK {
		panic(fmt.Sprint("no screen of ", rows, " rows of ", cols))
	}
	return screen.Feed(s, []byte(text))
}

func clone(s api.Screen) api.Screen {
	s.Cells, s.Other, s.Tabs = slices.Clone(s.Cells), slices.Clone(s.Other), slices.Clone(s.Tabs)
	s.P.Params, s.P.Inter, s.P.Utf = slices.Clone(s.P.Params), slices.Clone(s.P.Inter), slices.Clone(s.P.Utf)
	return s
}

// full: a screen of three rows and nine columns in which no field is as it was at first.
func full() api.Screen {
	return behind(3, 9, "\x1b[1;31mab\u6f22\x1b7\x1b[2;3r\x1b[2;9H\x1b[?1049h\x1b[?25l\x1b[3;8H\x1bH\x1b[1;44m\u6f22\x1b[?1;22;333!")
}

// The promises word by word.

func wantedCells(l []api.Cell) string {
	out, count := "", 0
	for i := len(l) - 1; i >= 0; i-- {
		count++
		if i == 0 || l[i-1] != l[i] {
			out = numbers(count, int(l[i].R), 4*int(l[i].Attr)+int(l[i].Half)) + out
			count = 0
		}
	}
	return out
}

func wantedPut(s api.Screen) string {
	bits := 0
	for i, on := range []bool{s.Wrap, s.Auto, s.Shown, s.Alt} {
		if on {
			bits += 1 << i
		}
	}
	out := numbers(s.Rows, s.Cols, s.Y, s.X, bits, int(s.Attr), s.Top, s.Bottom, s.SavedY, s.SavedX, int(s.SavedAttr))
	for _, on := range s.Tabs {
		if on {
			out += "\x01"
		} else {
			out += "\x00"
		}
	}
	out += wantedCells(s.Cells)
	if s.Alt {
		out += numbers(s.OtherY, s.OtherX) + wantedCells(s.Other)
	}
	out += numbers(s.P.Mode, int(s.P.Private), len(s.P.Params)) + numbers(s.P.Params...)
	out += number(uint64(len(s.P.Inter))) + string(s.P.Inter)
	return out + number(uint64(len(s.P.Utf))) + string(s.P.Utf)
}

// loose: bytes that are read without asking whether they may be; what isn't there is 0.
type loose struct {
	b []byte
}

func (l *loose) number() uint64 {
	n, size := binary.Uvarint(l.b)
	if size <= 0 {
		l.b = nil
		return 0
	}
	l.b = l.b[size:]
	return n
}

func (l *loose) int() int {
	return int(l.number())
}

func (l *loose) bytes() []byte {
	size := int(min(l.number(), uint64(len(l.b))))
	out := l.b[:size]
	l.b = l.b[size:]
	return out
}

func (l *loose) cells(n int) []api.Cell {
	var out []api.Cell
	for len(out) < n && len(l.b) > 0 {
		count, r, look := l.number(), rune(l.number()), l.number()
		c := api.Cell{R: r, Attr: uint16(look / 4), Half: uint8(look % 4)}
		// One more than there may be is as wrong as many more.
		out = append(out, slices.Repeat([]api.Cell{c}, int(min(count, uint64(n-len(out)+1))))...)
	}
	return out
}

// wantedRead: the screen that has just these bytes, found by what wantedPut tells of it.
func wantedRead(b []byte) (api.Screen, api.Errno) {
	l := loose{b}
	s := api.Screen{Rows: l.int(), Cols: l.int(), Y: l.int(), X: l.int()}
	bits := l.number()
	s.Wrap, s.Auto, s.Shown, s.Alt = bits&1 > 0, bits&2 > 0, bits&4 > 0, bits&8 > 0
	s.Attr, s.Top, s.Bottom, s.SavedY, s.SavedX, s.SavedAttr = uint16(l.number()), l.int(), l.int(), l.int(), l.int(), uint16(l.number())
	if s.Rows < 1 || s.Rows > 1000 || s.Cols < 1 || s.Cols > 1000 || len(l.b) < s.Cols {
		return api.Screen{}, api.ErrBytes
	}
	for _, c := range l.b[:s.Cols] {
		s.Tabs = append(s.Tabs, c > 0)
	}
	l.b = l.b[s.Cols:]
	s.Cells = l.cells(s.Rows * s.Cols)
	if s.Alt {
		s.OtherY, s.OtherX, s.Other = l.int(), l.int(), l.cells(s.Rows*s.Cols)
	}
	s.P.Mode, s.P.Private = l.int(), byte(l.number())
	for range min(l.number(), 100) {
		s.P.Params = append(s.P.Params, l.int())
	}
	s.P.Inter, s.P.Utf = l.bytes(), l.bytes()
	if !screen.Right(s) || wantedPut(s) != string(b) {
		return api.Screen{}, api.ErrBytes
	}
	return s, api.OK
}

// alike tells whether two screens are, field by field, by the library; a nil list is an empty one.
func alike(a, b api.Screen) bool {
	for _, s := range []*api.Screen{&a, &b} {
		s.Cells, s.Other, s.Tabs = append([]api.Cell{}, s.Cells...), append([]api.Cell{}, s.Other...), append([]bool{}, s.Tabs...)
		s.P.Params, s.P.Inter, s.P.Utf = append([]int{}, s.P.Params...), append([]byte{}, s.P.Inter...), append([]byte{}, s.P.Utf...)
	}
	return reflect.DeepEqual(a, b)
}

// wantBytes holds Put of s against bytes, and Read of them against s.
func wantBytes(t *testing.T, s api.Screen, want string) {
	t.Helper()
	got, errno := Put(s)
	if string(got) != want || errno != api.OK {
		t.Fatalf("Put: %x, %d; want %x", got, errno, want)
	}
	back, errno := Read([]byte(want))
	if !alike(back, s) || errno != api.OK {
		t.Fatalf("Read(%x): %+v, %d; want %+v", want, back, errno, s)
	}
	if !Same(back, s) || !Same(s, back) {
		t.Fatalf("Read(%x) isn't the Same as what Put was given", want)
	}
}

// wantRight holds Put and Read of a screen that is right against the promises.
func wantRight(t *testing.T, s api.Screen) {
	t.Helper()
	if !screen.Right(s) {
		t.Fatalf("not Right: %+v", s)
	}
	wantBytes(t, s, wantedPut(s))
}

func wantRefused(t *testing.T, b string, name ...any) {
	t.Helper()
	if s, errno := Read([]byte(b)); errno != api.ErrBytes || !alike(s, api.Screen{}) {
		t.Errorf("%v: Read(%x): %d, a screen of %d rows; want ErrBytes, and nothing", name, b, errno, s.Rows)
	}
}

// wantAsPromised holds Read of any bytes against the promise, and Put of what it told against the bytes.
func wantAsPromised(t *testing.T, b []byte) {
	t.Helper()
	want, errno := wantedRead(b)
	if got, gotErrno := Read(b); !alike(got, want) || gotErrno != errno {
		t.Fatalf("Read(%x): %+v, %d; want %+v, %d", b, got, gotErrno, want, errno)
	}
	if errno == api.OK {
		wantBytes(t, want, string(b))
	}
}

// texts: what brings a screen of any size into states of all kinds.
func texts() []string {
	return []string{
		"", "a", "abc", "abcdefghijklmnopqrstuvwxyz", "one\r\ntwo\r\nthree", "\u6f22", "a\u6f22\u5b57b", "\u6f22\u6f22\u6f22\u6f22\u6f22", "e\u0301\u00e9\U0001f600\ufffd\U0010ffff",
		"\x1b[1ma\x1b[4mb\x1b[7mc\x1b[md", "\x1b[31;44ma\x1b[37;47;1;4;7m\u6f22\x1b[30m", "\x1b[7m \x1b[2J\x1b[K", "\x1b[1;2r", "\x1b[2;3r\x1b[2;2H", "\x1b[3g", "\x1b[3g\x1b[2G\x1bH", "\x1b[2G\x1bH\x1b[0g\x1b[1G\x1b[0g",
		"\x1b[2;2H\x1b[35m\x1b7\x1b[m\x1b[H", "\x1b[999;999H", "\x1b[999Cx", "\x1b[999C\x1b[?7lx", "\x1b[?7l", "\x1b[?25l", "\x1b[?7;25l",
		"ab\x1b[?1049h", "ab\x1b[?1049hcd", "\x1b[2;2H\u6f22\x1b[?1049h\x1b[H\x1b[7m\u6f22", "ab\x1b[?1049hcd\x1b[?1049l", "\x1b[999;999Ha\x1b[?1049h\x1b[?25l\x1b[1;33mq",
		"\x1b", "\x1b ", "\x1b !", "\x1b !\x22", "\x1b[", "\x1b[?", "\x1b[>", "\x1b[0", "\x1b[;", "\x1b[1;2;3", "\x1b[65535;99999", "\x1b[?7;25", "\x1b[1;1;1;1;1;1;1;1;1;1;1;1;1;1;1;1", "\x1b[;;;;;;;;;;;;;;;", "\x1b[;;;;;;;;;;;;;;;;", "\x1b[$", "\x1b[?1;300!\x22", "\x1b[=!", "\x1b[!\x22#", "\x1b[1:", "\x1b]0;title", "\x1bPq", "\x1bX\x1b", "\x1b^\x07",
		"\xc3", "\xe6", "\xe6\xbc", "\xf0", "\xf0\x9f", "\xf0\x9f\x98", "a\x1b[?1049h\xf0\x9f\x98", "\xff\xc3(",
	}
}

// some: screens of small sizes behind the texts, and behind two of them.
func some() []api.Screen {
	var out []api.Screen
	for _, size := range [][2]int{{1, 1}, {1, 2}, {1, 20}, {2, 1}, {20, 1}, {2, 2}, {3, 9}, {4, 17}} {
		for i, text := range texts() {
			out = append(out, behind(size[0], size[1], text), behind(size[0], size[1], texts()[(i*7+size[0])%len(texts())]+text))
		}
	}
	return append(out, full())
}

// anyText: bytes that are mostly whole acts, cut off anywhere.
func anyText(r *rand.Rand) string {
	out := ""
	for range r.Intn(12) {
		switch r.Intn(4) {
		case 0:
			out += texts()[r.Intn(len(texts()))]
		case 1:
			out += fmt.Sprintf("\x1b[%d;%dH%c", r.Intn(6), r.Intn(20), []rune("ab \u6f22\u5b57")[r.Intn(5)])
		case 2:
			out += fmt.Sprintf("\x1b[%d;%d%c", r.Intn(50), r.Intn(50), "mmmmrgLM@PSTJKX"[r.Intn(15)])
		case 3:
			out += string([]byte{byte(r.Intn(256))})
		}
	}
	return out[:len(out)-r.Intn(1+len(out)/3)]
}

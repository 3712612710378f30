package screen

import (
	"fmt"
	"math/rand"
	"reflect"
	"slices"
	"testing"

	"reprise/api"
	"reprise/vt"
	"reprise/width"
)

// told tells a screen's rows, the cursor, and w if a wrap waits: '.' a blank, L, R a wide rune's halves, # a blank that has a look.
func told(s api.Screen) string {
	out := ""
	for y := range s.Rows {
		for x := range s.Cols {
			c := s.Cells[y*s.Cols+x]
			switch {
			case c.Half == 1:
				out += "L"
			case c.Half == 2:
				out += "R"
			case c == api.Cell{R: ' '}:
				out += "."
			case c.R == ' ':
				out += "#"
			default:
				out += string(c.R)
			}
		}
		out += "|"
	}
	out += fmt.Sprintf("%d,%d", s.Y, s.X)
	if s.Wrap {
		out += "w"
	}
	return out
}

// rest tells what told doesn't: the look, the rows that scroll, what is saved, the modes, the tabs, the other cells' cursor.
func rest(s api.Screen) string {
	tabs := ""
	for x, on := range s.Tabs {
		if on {
			tabs += fmt.Sprintf(" %d", x)
		}
	}
	return fmt.Sprintf("%x %d-%d saved %d,%d,%x auto %t shown %t alt %t %d,%d tabs%s", s.Attr, s.Top, s.Bottom, s.SavedY, s.SavedX, s.SavedAttr, s.Auto, s.Shown, s.Alt, s.OtherY, s.OtherX, tabs)
}

func clone(s api.Screen) api.Screen {
	s.Cells, s.Other, s.Tabs = slices.Clone(s.Cells), slices.Clone(s.Other), slices.Clone(s.Tabs)
	s.P = api.Parser{Mode: s.P.Mode, Private: s.P.Private, Params: slices.Clone(s.P.Params), Inter: slices.Clone(s.P.Inter), Utf: slices.Clone(s.P.Utf)}
	return s
}

// same: all fields alike; a nil list is an empty one.
func same(a, b api.Screen) bool {
	lists := slices.Equal(a.Cells, b.Cells) && slices.Equal(a.Other, b.Other) && slices.Equal(a.Tabs, b.Tabs) &&
		slices.Equal(a.P.Params, b.P.Params) && slices.Equal(a.P.Inter, b.P.Inter) && slices.Equal(a.P.Utf, b.P.Utf)
	for _, s := range []*api.Screen{&a, &b} {
		s.Cells, s.Other, s.Tabs = nil, nil, nil
		s.P.Params, s.P.Inter, s.P.Utf = nil, nil, nil
	}
	return lists && reflect.DeepEqual(a, b)
}

// wantSame holds a screen against the one that is wanted.
func wantSame(t *testing.T, got, want api.Screen, name string, args ...any) {
	t.Helper()
	if same(got, want) {
		return
	}
	t.Errorf("%s %q", name, args)
	if len(got.Cells) > 1000 || len(want.Cells) > 1000 || len(got.Cells) != got.Rows*got.Cols {
		t.Fatalf("not the %d rows of %d that are wanted", want.Rows, want.Cols)
	}
	t.Fatalf("%s %s %v %x\nwant %s %s %v %x", told(got), rest(got), got.P, got.Other, told(want), rest(want), want.P, want.Other)
}

// The promises word by word, cell by cell. No call of the grid's is made.

var none = api.Cell{R: ' '}

func wantedNew(rows, cols int) api.Screen {
	s := api.Screen{Rows: rows, Cols: cols, Bottom: rows - 1, Auto: true, Shown: true}
	for range rows * cols {
		s.Cells = append(s.Cells, none)
	}
	for x := range cols {
		s.Tabs = append(s.Tabs, x%8 == 0)
	}
	return s
}

func wantedMend(row []api.Cell) {
	was := slices.Clone(row)
	for x, c := range was {
		if c.Half == 1 && (x == len(was)-1 || was[x+1].Half != 2) || c.Half == 2 && (x == 0 || was[x-1].Half != 1) {
			row[x] = none
		}
	}
}

func wantedMendAll(s *api.Screen) {
	for y := range s.Rows {
		wantedMend(s.Cells[y*s.Cols : (y+1)*s.Cols])
	}
}

// wantedScroll: where row y is what row y + n was.
func wantedScroll(s *api.Screen, top, bottom, n int) {
	was := slices.Clone(s.Cells)
	for y := top; y <= bottom; y++ {
		for x := range s.Cols {
			s.Cells[y*s.Cols+x] = none
			if from := y + n; from >= top && from <= bottom {
				s.Cells[y*s.Cols+x] = was[from*s.Cols+x]
			}
		}
	}
}

func wantedErase(s *api.Screen, gone func(y, x int) bool) {
	for i := range s.Cells {
		if gone(i/s.Cols, i%s.Cols) {
			s.Cells[i] = none
		}
	}
	wantedMendAll(s)
}

// wantedCells: where of the cursor's row the cell at x is what that at x + n was.
func wantedCells(s *api.Screen, n int) {
	row := s.Cells[s.Y*s.Cols : (s.Y+1)*s.Cols]
	was := slices.Clone(row)
	for x := s.X; x < s.Cols; x++ {
		row[x] = none
		if from := x + n; from >= s.X && from < s.Cols {
			row[x] = was[from]
		}
	}
	wantedMend(row)
}

func wantedLF(s *api.Screen) {
	s.Wrap = false
	if s.Y == s.Bottom {
		wantedScroll(s, s.Top, s.Bottom, 1)
	} else if s.Y != s.Rows-1 {
		s.Y++
	}
}

func wantedPrint(s *api.Screen, r rune) {
	w := width.Of(r)
	if w == 0 {
		return
	}
	if s.Wrap {
		wantedLF(s)
		s.X = 0
	}
	if w == 2 && s.X == s.Cols-1 {
		if !s.Auto || s.Cols == 1 {
			return
		}
		wantedLF(s)
		s.X = 0
	}
	at := s.Y*s.Cols + s.X
	s.Cells[at] = api.Cell{R: r, Attr: s.Attr}
	if w == 2 {
		s.Cells[at] = api.Cell{R: r, Attr: s.Attr, Half: 1}
		s.Cells[at+1] = api.Cell{R: 0, Attr: s.Attr, Half: 2}
	}
	wantedMendAll(s)
	s.X += w
	if s.X > s.Cols-1 {
		s.X = s.Cols - 1
		s.Wrap = s.Auto
	}
}

func wantedCtl(s *api.Screen, b byte) {
	switch b {
	case 8, 9, 10, 11, 12, 13:
		s.Wrap = false
	}
	switch b {
	case 8:
		if s.X > 0 {
			s.X--
		}
	case 9:
		s.X++
		for s.X < s.Cols && !s.Tabs[s.X] {
			s.X++
		}
		s.X = min(s.X, s.Cols-1)
	case 10, 11, 12:
		wantedLF(s)
	case 13:
		s.X = 0
	}
}

func wantedEsc(s *api.Screen, b byte) {
	switch b {
	case '7':
		s.SavedY, s.SavedX, s.SavedAttr = s.Y, s.X, s.Attr
	case '8':
		s.Y, s.X, s.Attr, s.Wrap = s.SavedY, s.SavedX, s.SavedAttr, false
	case 'D':
		wantedLF(s)
	case 'E':
		wantedLF(s)
		s.X = 0
	case 'M':
		s.Wrap = false
		if s.Y == s.Top {
			wantedScroll(s, s.Top, s.Bottom, -1)
		} else if s.Y != 0 {
			s.Y--
		}
	case 'H':
		s.Tabs[s.X] = true
	case 'c':
		*s = wantedNew(s.Rows, s.Cols)
	}
}

// wantedNumbers answers n, m, k; what is beyond all screens is cut off, so that sums fit.
func wantedNumbers(params []int) (n, m, k int) {
	n, m = 1, 1
	if len(params) > 0 && params[0] != 0 {
		n = min(max(params[0], -5000), 5000)
	}
	if len(params) > 1 && params[1] != 0 {
		m = min(max(params[1], -5000), 5000)
	}
	if len(params) > 0 {
		k = params[0]
	}
	return n, m, k
}

// wantedCsi: what the final bytes do; each of those of the first table goes with no Wrap.
func wantedCsi(s *api.Screen, params []int, b byte) {
	n, m, k := wantedNumbers(params)
	y, x := s.Y, s.X
	inRegion := y >= s.Top && y <= s.Bottom
	to := func(toY, toX int) func() {
		return func() { s.Y, s.X = min(max(toY, 0), s.Rows-1), min(max(toX, 0), s.Cols-1) }
	}
	behind := func(cy, cx int) bool { return cy > y || cy == y && cx >= x }
	ahead := func(cy, cx int) bool { return cy < y || cy == y && cx <= x }
	does := map[byte]func(){
		'A': to(y-n, x), 'B': to(y+n, x), 'C': to(y, x+n), 'D': to(y, x-n), 'G': to(y, n-1), '`': to(y, n-1), 'd': to(n-1, x), 'H': to(n-1, m-1), 'f': to(n-1, m-1),
		'J': func() {
			wantedErase(s, func(cy, cx int) bool { return k == 2 || k == 0 && behind(cy, cx) || k == 1 && ahead(cy, cx) })
		},
		'K': func() {
			wantedErase(s, func(cy, cx int) bool {
				return cy == y && (k == 2 || k == 0 && behind(cy, cx) || k == 1 && ahead(cy, cx))
			})
		},
		'X': func() { wantedErase(s, func(cy, cx int) bool { return cy == y && cx >= x && cx < x+n }) },
		'L': func() {
			if inRegion {
				wantedScroll(s, y, s.Bottom, -max(n, 0))
				s.X = 0
			}
		},
		'M': func() {
			if inRegion {
				wantedScroll(s, y, s.Bottom, max(n, 0))
				s.X = 0
			}
		},
		'S': func() { wantedScroll(s, s.Top, s.Bottom, max(n, 0)) },
		'T': func() { wantedScroll(s, s.Top, s.Bottom, -max(n, 0)) },
		'@': func() { wantedCells(s, -max(n, 0)) },
		'P': func() { wantedCells(s, max(n, 0)) },
	}
	if do, ok := does[b]; ok {
		do()
		s.Wrap = false
	}
	switch b {
	case 'r':
		bottom := s.Rows
		if len(params) > 1 && params[1] != 0 && params[1] < s.Rows {
			bottom = params[1]
		}
		if n >= 1 && n < bottom {
			s.Top, s.Bottom, s.Y, s.X, s.Wrap = n-1, bottom-1, 0, 0, false
		}
	case 'g':
		for i := range s.Tabs {
			s.Tabs[i] = s.Tabs[i] && k != 3 && !(k == 0 && i == x)
		}
	case 'm':
		s.Attr = wantedLook(s.Attr, params)
	}
}

// wantedLook: what each number leaves of the look, and what it brings.
func wantedLook(attr uint16, params []int) uint16 {
	if len(params) == 0 {
		return 0
	}
	leaves := map[int]uint16{0: 0, 22: 0xffe, 24: 0xffd, 27: 0xffb, 39: 0xf0f, 49: 0x0ff}
	brings := map[int]uint16{1: 1, 4: 2, 7: 4}
	for colour := range 8 {
		leaves[30+colour], brings[30+colour] = 0xf0f, uint16(colour+1)*0x10
		leaves[40+colour], brings[40+colour] = 0x0ff, uint16(colour+1)*0x100
	}
	for _, p := range params {
		if left, ok := leaves[p]; ok {
			attr &= left
		}
		attr |= brings[p]
	}
	return attr
}

func wantedModes(s *api.Screen, params []int, on bool) {
	for _, p := range params {
		switch {
		case p == 7:
			s.Auto = on
		case p == 25:
			s.Shown = on
		case p == 1049 && on && !s.Alt:
			s.Other, s.OtherY, s.OtherX = s.Cells, s.Y, s.X
			s.Cells = wantedNew(s.Rows, s.Cols).Cells
			s.Alt, s.Wrap = true, false
		case p == 1049 && !on && s.Alt:
			s.Cells, s.Y, s.X = s.Other, s.OtherY, s.OtherX
			s.Other, s.OtherY, s.OtherX = nil, 0, 0
			s.Alt, s.Wrap = false, false
		}
	}
}

func wantedDo(s api.Screen, a api.Act) api.Screen {
	s = clone(s)
	switch {
	case a.Kind == api.Print:
		wantedPrint(&s, a.R)
	case a.Kind == api.Ctl:
		wantedCtl(&s, a.B)
	case len(a.Inter) > 0:
	case a.Kind == api.EscAct:
		wantedEsc(&s, a.B)
	case a.Kind == api.CsiAct && a.Private == 0:
		wantedCsi(&s, a.Params, a.B)
	case a.Kind == api.CsiAct && a.Private == '?' && (a.B == 'h' || a.B == 'l'):
		wantedModes(&s, a.Params, a.B == 'h')
	}
	return s
}

func wantedFeed(s api.Screen, b []byte) api.Screen {
	p, acts := vt.All(s.P, b)
	for _, a := range acts {
		s = wantedDo(s, a)
	}
	s.P = p
	return s
}

func wantedSize(s api.Screen, rows, cols int) api.Screen {
	out := clone(s)
	out.Rows, out.Cols = rows, cols
	sized := func(l []api.Cell) []api.Cell {
		m := wantedNew(rows, cols)
		for y := range min(s.Rows, rows) {
			for x := range min(s.Cols, cols) {
				m.Cells[y*cols+x] = l[y*s.Cols+x]
			}
		}
		wantedMendAll(&m)
		return m.Cells
	}
	out.Cells = sized(s.Cells)
	if s.Alt {
		out.Other = sized(s.Other)
	}
	for _, y := range []*int{&out.Y, &out.SavedY, &out.OtherY} {
		*y = min(*y, rows-1)
	}
	for _, x := range []*int{&out.X, &out.SavedX, &out.OtherX} {
		*x = min(*x, cols-1)
	}
	out.Wrap, out.Top, out.Bottom, out.Tabs = false, 0, rows-1, nil
	for x := range cols {
		out.Tabs = append(out.Tabs, x < s.Cols && s.Tabs[x] || x >= s.Cols && x%8 == 0)
	}
	return out
}

// behind tells a new screen behind bytes, by the promises.
func behind(rows, cols int, b string) api.Screen {
	return wantedFeed(wantedNew(rows, cols), []byte(b))
}

// Bytes to feed.

// aNumber tells a parameter: none, small, at a screen's edges, too great.
func aNumber(r *rand.Rand) string {
	some := []string{"", "0", "1", "2", "3", "4", "5", "7", "8", "9", "25", "999", "1000", "1001", "65535", "99999"}
	return some[r.Intn(len(some))]
}

func aLook(r *rand.Rand) string {
	some := []string{"", "0", "1", "4", "7", "22", "24", "27", "39", "49", "5", "29", "38", "48", "50", "90", "107"}
	if n := r.Intn(len(some) + 16); n >= len(some) {
		return fmt.Sprint(30 + (n-len(some))%8 + (n-len(some))/8*10)
	} else {
		return some[n]
	}
}

func someNumbers(r *rand.Rand, one func(r *rand.Rand) string) string {
	out := one(r)
	for r.Intn(3) == 0 {
		out += ";" + one(r)
	}
	return out
}

// aPiece tells text, a control byte, a sequence, or garbage.
func aPiece(r *rand.Rand) string {
	pick := func(s string) string { l := []rune(s); return string(l[r.Intn(len(l))]) }
	switch r.Intn(14) {
	case 0, 1, 2, 3:
		return pick("abcdefgh \u6f22\u5b57\uff21\u0301\u200b\u00e9")
	case 4:
		return pick("\b\t\n\v\f\r\r\n\x07\x00\x7f\x18\x1a")
	case 5:
		return "\x1b" + pick("78DEMHcDEM78Z=")
	case 6, 7:
		return "\x1b[" + someNumbers(r, aNumber) + pick("ABCDG`dHfHf")
	case 8:
		return "\x1b[" + someNumbers(r, aNumber) + pick("JKLM@PXST")
	case 9:
		return "\x1b[" + someNumbers(r, aNumber) + pick("rrrg")
	case 10:
		return "\x1b[" + someNumbers(r, aLook) + "m"
	case 11:
		return "\x1b[?" + []string{"7", "7", "25", "7;25", "", "8"}[r.Intn(6)] + pick("hhl")
	case 12:
		return "\x1b[?" + []string{"1049", "7;1049", "1049;25", "1049;1049", "25"}[r.Intn(5)] + pick("hl")
	}
	return []string{"\x1b(B", "\x1b[!p", "\x1b[ @", "\x1b[>1h", "\x1b[?J", "\x1b[?1r", "\x1b]0;a\x07", "\xff", "\xe6\xbc", "\x1b[1;", "\x1b[q", "\x1b[1Z", "\x1b[5$x"}[r.Intn(13)]
}

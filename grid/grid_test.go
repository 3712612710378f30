package grid

import (
	"fmt"
	"math"
	"math/rand"
	"slices"
	"strings"
	"testing"

	"reprise/api"
)

// of tells cells of a text: L, R a wide rune's halves, '?' what is no kind of half.
func of(s string) []api.Cell {
	var out []api.Cell
	for _, r := range s {
		switch r {
		case 'L':
			out = append(out, api.Cell{R: 0x6f22, Half: 1})
		case 'R':
			out = append(out, api.Cell{Half: 2})
		case '?':
			out = append(out, api.Cell{R: '?', Half: 3})
		default:
			out = append(out, api.Cell{R: r})
		}
	}
	return out
}

// told tells cells as the text of which they are; what no text is of, in braces.
func told(l []api.Cell) string {
	s := ""
	for _, c := range l {
		short := string(c.R)
		switch c.Half {
		case 1:
			short = "L"
		case 2:
			short = "R"
		}
		if again := of(short); len(again) != 1 || again[0] != c {
			short = fmt.Sprintf("{%x %x %d}", c.R, c.Attr, c.Half)
		}
		s += short
	}
	return s
}

// each answers l, whose cells all have a look of their own now.
func each(l []api.Cell) []api.Cell {
	for i := range l {
		l[i].Attr = uint16(i + 1)
	}
	return l
}

// letters tells a grid of that many narrow runes, each its own.
func letters(n int) []api.Cell {
	l := make([]api.Cell, n)
	for i := range l {
		l[i].R = rune('a' + i%26)
	}
	return each(l)
}

// patterns tells all texts of n of some letters.
func patterns(n int, of string) []string {
	out := []string{""}
	for range n {
		var more []string
		for _, s := range out {
			for _, r := range of {
				more = append(more, s+string(r))
			}
		}
		out = more
	}
	return out
}

// numbersAround tells all that is near to 0 to most, and what is far from it.
func numbersAround(most int) []int {
	out := []int{math.MinInt, math.MinInt + 1, -api.MaxSize - 1, -api.MaxSize, api.MaxSize - 1, api.MaxSize, api.MaxSize + 1, 1 << 32, 1 << 62, math.MaxInt - 1, math.MaxInt}
	for n := -2; n <= most+2; n++ {
		out = append(out, n)
	}
	return out
}

// The promises word by word: a grid as a list of rows, cell by cell.

func wantedBlanks(n int) []api.Cell {
	return slices.Repeat([]api.Cell{{R: ' '}}, n)
}

func wantedN(n int) int {
	switch {
	case n < 0:
		return 0
	case n > api.MaxSize:
		return api.MaxSize
	}
	return n
}

// rowsOf answers l as rows, and whether cols are right, it is a grid of them, and its rows are no more than there may be.
func rowsOf(l []api.Cell, cols int) ([][]api.Cell, bool) {
	if cols < 1 || cols > api.MaxSize || len(l)%cols != 0 || len(l)/cols > api.MaxSize {
		return nil, false
	}
	var rows [][]api.Cell
	for y := range len(l) / cols {
		rows = append(rows, slices.Clone(l[y*cols:(y+1)*cols]))
	}
	return rows, true
}

func wantedMendRow(row []api.Cell) []api.Cell {
	var out []api.Cell
	for x, c := range row {
		behind, ahead := api.Cell{}, api.Cell{}
		if x+1 < len(row) {
			behind = row[x+1]
		}
		if x > 0 {
			ahead = row[x-1]
		}
		if c.Half == 1 && behind.Half != 2 || c.Half == 2 && ahead.Half != 1 {
			c = api.Cell{R: ' '}
		}
		out = append(out, c)
	}
	return out
}

// wantedMove: where Up takes from row y + n, Down from row y - n.
func wantedMove(l []api.Cell, cols, top, bottom, n, way int) []api.Cell {
	rows, ok := rowsOf(l, cols)
	if !ok || top < 0 || top > bottom || bottom >= len(rows) {
		return slices.Clone(l)
	}
	var out []api.Cell
	for y, row := range rows {
		if y >= top && y <= bottom {
			from := y + way*wantedN(n)
			row = wantedBlanks(cols)
			if from >= top && from <= bottom {
				row = rows[from]
			}
		}
		out = append(out, row...)
	}
	return out
}

// wantedRow answers l with row y as change answers it, and mended; x is a place in it.
func wantedRow(l []api.Cell, cols, y, x int, change func(row []api.Cell) []api.Cell) []api.Cell {
	rows, ok := rowsOf(l, cols)
	if !ok || y < 0 || y >= len(rows) || x < 0 || x > cols {
		return slices.Clone(l)
	}
	rows[y] = wantedMendRow(change(rows[y]))
	return slices.Concat(rows...)
}

func wantedInsert(l []api.Cell, cols, y, x, n int) []api.Cell {
	return wantedRow(l, cols, y, x, func(row []api.Cell) []api.Cell {
		return slices.Concat(row[:x], wantedBlanks(wantedN(n)), row[x:])[:cols]
	})
}

func wantedDelete(l []api.Cell, cols, y, x, n int) []api.Cell {
	return wantedRow(l, cols, y, x, func(row []api.Cell) []api.Cell {
		for range wantedN(n) {
			if x < len(row) {
				row = slices.Delete(row, x, x+1)
			}
		}
		return append(row, wantedBlanks(cols-len(row))...)
	})
}

func wantedErase(l []api.Cell, cols, y, from, to int) []api.Cell {
	return wantedRow(l, cols, y, 0, func(row []api.Cell) []api.Cell {
		for x := range row {
			if x >= from && x < to {
				row[x] = api.Cell{R: ' '}
			}
		}
		return row
	})
}

func wantedMend(l []api.Cell, cols, y int) []api.Cell {
	return wantedRow(l, cols, y, 0, func(row []api.Cell) []api.Cell { return row })
}

func wantedSize(l []api.Cell, rows, cols, rows2, cols2 int) []api.Cell {
	for _, n := range []int{rows, cols, rows2, cols2} {
		if n < 1 || n > api.MaxSize {
			return slices.Clone(l)
		}
	}
	if rows*cols != len(l) {
		return slices.Clone(l)
	}
	var out []api.Cell
	for y := range rows2 {
		row := wantedBlanks(cols2)
		for x := range row {
			if y < rows && x < cols {
				row[x] = l[y*cols+x]
			}
		}
		out = append(out, wantedMendRow(row)...)
	}
	return out
}

// want holds an answer against what is wanted.
func want(t *testing.T, got, want []api.Cell, name string, l []api.Cell, args ...int) {
	t.Helper()
	if !slices.Equal(got, want) {
		if len(l) > 200 {
			t.Fatalf("%s of %d cells, %v: not the %d cells that are wanted", name, len(l), args, len(want))
		}
		t.Fatalf("%s(%s, %v): %s; want %s", name, told(l), args, told(got), told(want))
	}
}

func wantUp(t *testing.T, l []api.Cell, cols, top, bottom, n int) {
	t.Helper()
	want(t, Up(l, cols, top, bottom, n), wantedMove(l, cols, top, bottom, n, 1), "Up", l, cols, top, bottom, n)
}

func wantDown(t *testing.T, l []api.Cell, cols, top, bottom, n int) {
	t.Helper()
	want(t, Down(l, cols, top, bottom, n), wantedMove(l, cols, top, bottom, n, -1), "Down", l, cols, top, bottom, n)
}

func wantInsert(t *testing.T, l []api.Cell, cols, y, x, n int) {
	t.Helper()
	want(t, Insert(l, cols, y, x, n), wantedInsert(l, cols, y, x, n), "Insert", l, cols, y, x, n)
}

func wantDelete(t *testing.T, l []api.Cell, cols, y, x, n int) {
	t.Helper()
	want(t, Delete(l, cols, y, x, n), wantedDelete(l, cols, y, x, n), "Delete", l, cols, y, x, n)
}

func wantErase(t *testing.T, l []api.Cell, cols, y, from, to int) {
	t.Helper()
	want(t, Erase(l, cols, y, from, to), wantedErase(l, cols, y, from, to), "Erase", l, cols, y, from, to)
}

func wantMend(t *testing.T, l []api.Cell, cols, y int) {
	t.Helper()
	want(t, Mend(l, cols, y), wantedMend(l, cols, y), "Mend", l, cols, y)
}

func wantSize(t *testing.T, l []api.Cell, rows, cols, rows2, cols2 int) {
	t.Helper()
	want(t, Size(l, rows, cols, rows2, cols2), wantedSize(l, rows, cols, rows2, cols2), "Size", l, rows, cols, rows2, cols2)
}

// wantText holds an answer against a text.
func wantText(t *testing.T, got []api.Cell, want string) {
	t.Helper()
	if said := told(got); said != want {
		t.Errorf("%q; want %q", said, want)
	}
}

// gridOf: a grid and its size.
type gridOf struct {
	l          []api.Cell
	rows, cols int
}

// someGrids answers grids of some sizes, of narrow runes, and of wide ones at all columns, whole and cut in two.
func someGrids() []gridOf {
	var out []gridOf
	for rows := 1; rows <= 4; rows++ {
		for cols := 1; cols <= 5; cols++ {
			out = append(out, gridOf{letters(rows * cols), rows, cols})
			for _, text := range []string{"LRaLR", "aLRLR", "RaLLR", "L", "R"} {
				s := strings.Repeat(text, rows*cols)[:rows*cols]
				out = append(out, gridOf{each(of(s)), rows, cols})
			}
		}
	}
	return out
}

// P8.1: Blank

func TestBlank(t *testing.T) {
	for _, rows := range numbersAround(5) {
		for _, cols := range numbersAround(5) {
			size := 0
			if rows >= 1 && rows <= api.MaxSize && cols >= 1 && cols <= api.MaxSize {
				size = rows * cols
			}
			want(t, Blank(rows, cols), wantedBlanks(size), "Blank", nil, rows, cols)
		}
	}
	wantText(t, Blank(1, 1), " ")
	wantText(t, Blank(2, 3), "      ")
}

// P8.1: Up, Down

func TestUpAndDownByHand(t *testing.T) {
	four := "aabbccdd"
	for _, x := range []struct {
		top, bottom, n int
		up, down       string
	}{
		{0, 3, 0, four, four},
		{0, 3, 1, "bbccdd  ", "  aabbcc"},
		{0, 3, 2, "ccdd    ", "    aabb"},
		{0, 3, 3, "dd      ", "      aa"},
		{0, 3, 4, "        ", "        "},
		{0, 3, 5, "        ", "        "},
		{1, 2, 1, "aacc  dd", "aa  bbdd"},
		{1, 2, 2, "aa    dd", "aa    dd"},
		{0, 0, 1, "  bbccdd", "  bbccdd"},
		{3, 3, 1, "aabbcc  ", "aabbcc  "},
		{2, 2, 0, four, four},
		{0, 2, 1, "bbcc  dd", "  aabbdd"},
		{1, 3, 1, "aaccdd  ", "aa  bbcc"},
		{1, 3, math.MaxInt, "aa      ", "aa      "},
		{1, 3, math.MinInt, four, four},
		{2, 1, 1, four, four},
		{-1, 3, 1, four, four},
		{0, 4, 1, four, four},
		{4, 4, 1, four, four},
	} {
		wantText(t, Up(of(four), 2, x.top, x.bottom, x.n), x.up)
		wantText(t, Down(of(four), 2, x.top, x.bottom, x.n), x.down)
	}
	// The chapter's example.
	wantText(t, Up(of(four), 2, 0, 3, 4), "        ")
}

func TestUpAndDownEverywhere(t *testing.T) {
	for _, g := range someGrids() {
		for top := -2; top <= g.rows+1; top++ {
			for bottom := -2; bottom <= g.rows+1; bottom++ {
				for _, n := range numbersAround(g.rows) {
					wantUp(t, g.l, g.cols, top, bottom, n)
					wantDown(t, g.l, g.cols, top, bottom, n)
				}
			}
		}
	}
}

// TestUpAndDownDontMend: rows go as they are.
func TestUpAndDownDontMend(t *testing.T) {
	wantText(t, Up(of("aaRLLLaa"), 2, 0, 2, 1), "RLLL  aa")
	wantText(t, Down(of("RLLLaaRR"), 2, 0, 2, 1), "  RLLLRR")
	wantText(t, Up(of("RLLL"), 2, 0, 1, 0), "RLLL")
}

// TestMostRows: rows up to MaxSize are rows as others are; of one more, each call answers the grid as it is.
func TestMostRows(t *testing.T) {
	for _, rows := range []int{api.MaxSize - 1, api.MaxSize, api.MaxSize + 1, api.MaxSize + 2, 2 * api.MaxSize} {
		for cols := 1; cols <= 3; cols++ {
			// Rows of narrow runes, and rows with halves that stand alone at their first column or at their last.
			for _, l := range [][]api.Cell{letters(rows * cols), each(of(strings.Repeat("RaL"[:cols], rows))), each(of(strings.Repeat("LaR"[3-cols:], rows)))} {
				wantMostRows(t, l, rows, cols)
			}
		}
	}
}

// wantMostRows holds the calls that have no argument of that name for rows against the promises.
func wantMostRows(t *testing.T, l []api.Cell, rows, cols int) {
	t.Helper()
	for _, n := range []int{0, 1, rows - 1, rows, api.MaxSize - 1, api.MaxSize, api.MaxSize + 1, math.MaxInt} {
		wantUp(t, l, cols, 0, rows-1, n)
		wantDown(t, l, cols, 0, rows-1, n)
		wantUp(t, l, cols, 1, rows-1, n)
		wantDown(t, l, cols, 0, rows-2, n)
	}
	for _, y := range []int{0, 1, rows / 2, rows - 2, rows - 1, rows} {
		for x := range cols + 1 {
			wantInsert(t, l, cols, y, x, 1)
			wantDelete(t, l, cols, y, x, 1)
			wantErase(t, l, cols, y, x, cols)
		}
		wantUp(t, l, cols, y, y, 1)
		wantDown(t, l, cols, y, y, 1)
		wantMend(t, l, cols, y)
	}
}

// TestOneRowTooMany: by hand, of each of the six calls, next to the grid that has just as many rows as it may.
func TestOneRowTooMany(t *testing.T) {
	calls := map[string]func(l []api.Cell) []api.Cell{
		"Up":     func(l []api.Cell) []api.Cell { return Up(l, 1, 0, 0, 1) },
		"Down":   func(l []api.Cell) []api.Cell { return Down(l, 1, 0, 0, 1) },
		"Insert": func(l []api.Cell) []api.Cell { return Insert(l, 1, 0, 0, 1) },
		"Delete": func(l []api.Cell) []api.Cell { return Delete(l, 1, 0, 0, 1) },
		"Erase":  func(l []api.Cell) []api.Cell { return Erase(l, 1, 0, 0, 1) },
		"Mend":   func(l []api.Cell) []api.Cell { return Mend(l, 1, 0) },
	}
	for name, call := range calls {
		most := "L" + strings.Repeat("a", api.MaxSize-1)
		if said := told(call(of(most))); said != " "+most[1:] {
			t.Errorf("%s of %d rows: the first cell is %q", name, api.MaxSize, said[:1])
		}
		if said := told(call(of(most + "b"))); said != most+"b" {
			t.Errorf("%s of %d rows: the first cell is %q", name, api.MaxSize+1, said[:1])
		}
	}
}

func TestGreatestGrid(t *testing.T) {
	most := api.MaxSize
	l := letters(most * most)
	for _, n := range []int{1, most - 1, most, most + 1, math.MaxInt} {
		wantUp(t, l, most, 0, most-1, n)
		wantDown(t, l, most, 0, most-1, n)
		wantInsert(t, l, most, most-1, 0, n)
		wantDelete(t, l, most, most-1, 0, n)
		wantErase(t, l, most, most-1, 0, n)
		wantInsert(t, l, most, 0, most-1, n)
		wantDelete(t, l, most, 0, most-1, n)
	}
	for _, size := range []int{1, most - 1, most, most + 1} {
		wantSize(t, l, most, most, size, size)
		wantSize(t, l, most, most, 1, size)
		wantSize(t, l, most, most, size, 1)
	}
	wantSize(t, letters(most), 1, most, most, 1)
	wantSize(t, letters(most), most, 1, 1, most)
	wantSize(t, letters(1), 1, 1, most, most)
}

// P8.1: Insert, Delete, Erase

func TestInsertByHand(t *testing.T) {
	for _, x := range []struct {
		was     string
		y, x, n int
		want    string
	}{
		{"abcdefgh", 0, 0, 1, " abcefgh"},
		{"abcdefgh", 1, 0, 2, "abcd  ef"},
		{"abcdefgh", 0, 3, 1, "abc efgh"},
		{"abcdefgh", 0, 3, 9, "abc efgh"},
		{"abcdefgh", 0, 4, 1, "abcdefgh"},
		{"abcdefgh", 0, 1, 0, "abcdefgh"},
		{"abcdefgh", 0, 1, -1, "abcdefgh"},
		{"abcdefgh", 0, 0, math.MaxInt, "    efgh"},
		// A wide rune: ahead of it, between its halves, behind it.
		{"aLRbLRLR", 0, 1, 1, "a LRLRLR"},
		{"aLRbLRLR", 0, 2, 1, "a   LRLR"},
		{"aLRbLRLR", 0, 3, 1, "aLR LRLR"},
		// What goes to the last column is cut in two.
		{"aLRbLRLR", 0, 0, 1, " aLRLRLR"},
		{"aLRbLRLR", 0, 0, 2, "  a LRLR"},
		{"abLRefgh", 0, 0, 1, " ab efgh"},
		{"abLRefgh", 0, 4, 1, "abLRefgh"},
		// The row is mended, even where nothing comes; the other one is not.
		{"RabLRabL", 0, 4, 1, " ab RabL"},
		{"RabLRabL", 1, 4, 0, "RabL ab "},
		{"RabLRabL", 1, 2, -7, "RabL ab "},
		// A half of the next row is no other half.
		{"abcLRfgh", 0, 1, 0, "abc Rfgh"},
	} {
		wantText(t, Insert(of(x.was), 4, x.y, x.x, x.n), x.want)
	}
}

func TestDeleteByHand(t *testing.T) {
	for _, x := range []struct {
		was     string
		y, x, n int
		want    string
	}{
		{"abcdefgh", 0, 0, 1, "bcd efgh"},
		{"abcdefgh", 1, 0, 2, "abcdgh  "},
		{"abcdefgh", 0, 3, 1, "abc efgh"},
		{"abcdefgh", 0, 3, 2, "abc efgh"},
		{"abcdefgh", 0, 4, 1, "abcdefgh"},
		{"abcdefgh", 0, 1, 0, "abcdefgh"},
		{"abcdefgh", 0, 1, math.MinInt, "abcdefgh"},
		{"abcdefgh", 1, 0, 4, "abcd    "},
		{"abcdefgh", 1, 0, math.MaxInt, "abcd    "},
		{"aLRbLRLR", 0, 0, 1, "LRb LRLR"},
		{"aLRbLRLR", 0, 1, 1, "a b LRLR"},
		{"aLRbLRLR", 0, 2, 1, "a b LRLR"},
		{"aLRbLRLR", 0, 0, 2, " b  LRLR"},
		{"aLRbLRLR", 0, 1, 2, "ab  LRLR"},
		{"abLRefgh", 0, 3, 1, "ab  efgh"},
		// Two halves that were not each other's are so behind it.
		{"LRLRabcd", 0, 1, 2, "LR  abcd"},
		{"RabLRabL", 0, 4, 1, " ab RabL"},
		{"RabLRabL", 1, 4, 0, "RabL ab "},
		{"abcLRfgh", 0, 1, 0, "abc Rfgh"},
	} {
		wantText(t, Delete(of(x.was), 4, x.y, x.x, x.n), x.want)
	}
}

func TestEraseByHand(t *testing.T) {
	for _, x := range []struct {
		was         string
		y, from, to int
		want        string
	}{
		{"abcdefgh", 0, 0, 4, "    efgh"},
		{"abcdefgh", 1, 0, 4, "abcd    "},
		{"abcdefgh", 0, 1, 3, "a  defgh"},
		{"abcdefgh", 0, 0, 1, " bcdefgh"},
		{"abcdefgh", 0, 3, 4, "abc efgh"},
		{"abcdefgh", 0, 2, 2, "abcdefgh"},
		{"abcdefgh", 0, 3, 1, "abcdefgh"},
		{"abcdefgh", 0, 4, 4, "abcdefgh"},
		{"abcdefgh", 0, 4, 9, "abcdefgh"},
		{"abcdefgh", 0, -9, 2, "  cdefgh"},
		{"abcdefgh", 0, 2, 9, "ab  efgh"},
		{"abcdefgh", 0, -9, -1, "abcdefgh"},
		{"abcdefgh", 0, 9, 2, "abcdefgh"},
		{"abcdefgh", 0, 2, -9, "abcdefgh"},
		{"abcdefgh", 1, math.MinInt, math.MaxInt, "abcd    "},
		{"abcdefgh", 1, math.MaxInt, math.MinInt, "abcdefgh"},
		{"aLRbLRLR", 0, 0, 1, " LRbLRLR"},
		{"aLRbLRLR", 0, 1, 2, "a  bLRLR"},
		{"aLRbLRLR", 0, 2, 3, "a  bLRLR"},
		{"aLRbLRLR", 0, 3, 4, "aLR LRLR"},
		{"aLRbLRLR", 1, 1, 3, "aLRb    "},
		{"RabLRabL", 0, 2, 2, " ab RabL"},
		{"RabLRabL", 1, 3, 1, "RabL ab "},
		{"abcLRfgh", 0, 0, 1, " bc Rfgh"},
	} {
		wantText(t, Erase(of(x.was), 4, x.y, x.from, x.to), x.want)
	}
}

func TestRowsCallsEverywhere(t *testing.T) {
	for _, g := range someGrids() {
		for y := -2; y <= g.rows+1; y++ {
			wantMend(t, g.l, g.cols, y)
			for x := -2; x <= g.cols+2; x++ {
				for _, n := range numbersAround(g.cols) {
					wantInsert(t, g.l, g.cols, y, x, n)
					wantDelete(t, g.l, g.cols, y, x, n)
					wantErase(t, g.l, g.cols, y, x, n)
					wantErase(t, g.l, g.cols, y, n, x)
				}
			}
		}
	}
}

// TestAllRows: each row of up to five cells, narrow ones and halves, whole or alone, between two others.
func TestAllRows(t *testing.T) {
	for cols := 1; cols <= 5; cols++ {
		for _, s := range patterns(cols, "aLR") {
			other := strings.Repeat("RL", cols)[:cols]
			l := each(of(other + s + other))
			wantMend(t, l, cols, 1)
			for x := range cols + 1 {
				for n := range cols + 2 {
					wantInsert(t, l, cols, 1, x, n)
					wantDelete(t, l, cols, 1, x, n)
					wantErase(t, l, cols, 1, x, n)
				}
			}
			for cols2 := 1; cols2 <= cols+2; cols2++ {
				for rows2 := 1; rows2 <= 5; rows2++ {
					wantSize(t, l, 3, cols, rows2, cols2)
				}
			}
		}
	}
}

// P8.1: Size

func TestSizeByHand(t *testing.T) {
	for _, x := range []struct {
		was                      string
		rows, cols, rows2, cols2 int
		want                     string
	}{
		{"abcdef", 2, 3, 2, 3, "abcdef"},
		{"abcdef", 2, 3, 1, 3, "abc"},
		{"abcdef", 2, 3, 3, 3, "abcdef   "},
		{"abcdef", 2, 3, 2, 2, "abde"},
		{"abcdef", 2, 3, 2, 4, "abc def "},
		{"abcdef", 2, 3, 3, 2, "abde  "},
		{"abcdef", 2, 3, 1, 5, "abc  "},
		{"abcdef", 2, 3, 1, 1, "a"},
		{"abcdef", 3, 2, 2, 2, "abcd"},
		{"abcdef", 1, 6, 6, 1, "a     "},
		{"abcdef", 6, 1, 1, 6, "a     "},
		{"a", 1, 1, 2, 2, "a   "},
		// A wide rune that is cut in two, in each row.
		{"aLRLRa", 2, 3, 2, 2, "a LR"},
		{"aLRaLR", 2, 3, 2, 2, "a a "},
		{"aLRaLR", 2, 3, 2, 1, "aa"},
		{"LRLR", 2, 2, 2, 1, "  "},
		{"LRLR", 2, 2, 2, 3, "LR LR "},
		// Halves alone, even of a grid that is of the same size; of two rows they are not one rune's.
		{"aLRa", 2, 2, 2, 2, "a  a"},
		{"LaaR", 2, 2, 2, 2, " aa "},
		{"LaaR", 2, 2, 1, 3, " a "},
		// Wrong ones, as they are.
		{"aLRa", 2, 2, 0, 2, "aLRa"},
		{"aLRa", 2, 2, 2, 0, "aLRa"},
		{"aLRa", 2, 2, -1, 2, "aLRa"},
		{"aLRa", 2, 2, 2, -1, "aLRa"},
		{"aLRa", 2, 2, 1001, 2, "aLRa"},
		{"aLRa", 2, 2, 2, 1001, "aLRa"},
		{"aLRa", 2, 3, 1, 1, "aLRa"},
		{"aLRa", 3, 2, 1, 1, "aLRa"},
		{"aLRa", 1, 2, 1, 1, "aLRa"},
		{"aLRa", -2, -2, 1, 1, "aLRa"},
		{"aLRa", 0, 0, 1, 1, "aLRa"},
		{"", 0, 0, 1, 1, ""},
		{"", 1, 1, 1, 1, ""},
		{"", 0, 5, 1, 1, ""},
	} {
		wantText(t, Size(of(x.was), x.rows, x.cols, x.rows2, x.cols2), x.want)
	}
}

func TestSizesEverywhere(t *testing.T) {
	sizes := []int{math.MinInt, -1, 0, 1, 2, 3, 4, 5, 6, 7, api.MaxSize, api.MaxSize + 1, math.MaxInt}
	for _, g := range someGrids() {
		for _, rows2 := range sizes {
			for _, cols2 := range sizes {
				if rows2 != api.MaxSize || cols2 != api.MaxSize {
					wantSize(t, g.l, g.rows, g.cols, rows2, cols2)
				}
			}
		}
		for _, rows := range sizes {
			for _, cols := range sizes {
				wantSize(t, g.l, rows, cols, 3, 4)
			}
		}
	}
}

// TestSizesBeyondMaxSize: a length that is rows times cols doesn't make them right, nor does one that is so only where ints wrap round.
func TestSizesBeyondMaxSize(t *testing.T) {
	l := letters(api.MaxSize + 1)
	wantText(t, Size(l, 1, api.MaxSize+1, 1, 1), told(l))
	wantText(t, Size(l, api.MaxSize+1, 1, 1, 1), told(l))
	wantText(t, Size(of("abcd"), -2, -2, 1, 1), "abcd")
	wantText(t, Size(of("abcd"), -1, -4, 1, 1), "abcd")
	wantText(t, Size(of("abcd"), 4, 1<<62+1, 1, 1), "abcd")
	wantText(t, Size(of("abcd"), 1<<62+1, 4, 1, 1), "abcd")
	wantText(t, Size(nil, 1<<32, 1<<32, 1, 1), "")
}

// P8.1: what is no grid, no place

func TestNoGrid(t *testing.T) {
	halves := "RaLRLaRL"
	for size := range len(halves) + 1 {
		s := halves[:size]
		for cols := -3; cols <= size+3; cols++ {
			if cols > 0 && size%cols == 0 && size > 0 {
				continue
			}
			wantAsItIs(t, s, cols, 0, 0, 0)
		}
		for _, cols := range []int{math.MinInt, -api.MaxSize, api.MaxSize, api.MaxSize + 1, 1 << 32, math.MaxInt} {
			wantAsItIs(t, s, cols, 0, 0, 0)
		}
	}
	// More columns than there may be, and just as many cells.
	wantAsItIs(t, strings.Repeat("L", api.MaxSize+1), api.MaxSize+1, 0, 0, 0)
	wantAsItIs(t, strings.Repeat("L", 2*api.MaxSize+2), api.MaxSize+1, 0, 0, 0)
	for _, cols := range []int{math.MinInt, -1, 0, 1, 2, api.MaxSize, api.MaxSize + 1, math.MaxInt} {
		wantAsItIs(t, "", cols, 0, 0, 0)
		wantAsItIs(t, "", cols, -1, -1, 0)
	}
}

func TestNoPlace(t *testing.T) {
	halves := "RaLRLaRL"
	far := []int{math.MinInt, math.MinInt / 2, -api.MaxSize, -2, -1, 4, 5, api.MaxSize, 1 << 32, 1<<62 + 1, 1 << 62, math.MaxInt}
	for _, y := range far {
		wantAsItIs(t, halves, 2, y, y, 0)
	}
	for _, x := range far {
		if x == 4 {
			continue
		}
		for y := range 2 {
			wantText(t, Insert(of(halves), 4, y, x, 1), halves)
			wantText(t, Delete(of(halves), 4, y, x, 1), halves)
		}
	}
	for _, place := range far {
		for y := range 4 {
			if place < 0 || place > 3 {
				wantText(t, Up(of(halves), 2, place, y, 1), halves)
				wantText(t, Down(of(halves), 2, place, y, 1), halves)
				wantText(t, Up(of(halves), 2, y, place, 1), halves)
				wantText(t, Down(of(halves), 2, y, place, 1), halves)
			}
			for top := y + 1; top < 4; top++ {
				wantText(t, Up(of(halves), 2, top, y, 1), halves)
				wantText(t, Down(of(halves), 2, top, y, 1), halves)
			}
		}
	}
}

// wantAsItIs: of what can't be, each call of a row answers the grid, halves that are alone and all.
func wantAsItIs(t *testing.T, s string, cols, top, bottom, x int) {
	t.Helper()
	for _, n := range []int{-1, 0, 1, 2, math.MaxInt} {
		for name, got := range map[string][]api.Cell{
			"Up":     Up(of(s), cols, top, bottom, n),
			"Down":   Down(of(s), cols, top, bottom, n),
			"Insert": Insert(of(s), cols, top, x, n),
			"Delete": Delete(of(s), cols, top, x, n),
			"Erase":  Erase(of(s), cols, top, x, n),
			"Mend":   Mend(of(s), cols, top),
		} {
			if said := told(got); said != s {
				t.Errorf("%s(%s, %d, %d, %d, ..): %s", name, s, cols, top, n, said)
			}
		}
	}
}

// P8.2

func TestMendByHand(t *testing.T) {
	for was, want := range map[string]string{
		"a": "a", "L": " ", "R": " ", " ": " ",
		"LR": "LR", "RL": "  ", "LL": "  ", "RR": "  ", "La": " a", "aL": "a ", "Ra": " a", "aR": "a ",
		"LRa": "LRa", "aLR": "aLR", "LLR": " LR", "LRR": "LR ", "RLR": " LR", "LRL": "LR ", "LaR": " a ", "L R": "   ",
		"LRLR": "LRLR", "LLRR": " LR ", "RLRL": " LR ", "RRLL": "    ", "abLR": "abLR", "LRab": "LRab",
		"LLLRRR": "  LR  ", "LRaLRb": "LRaLRb", "LaRLRa": " a LRa", "RaLRbL": " aLRb ",
		// What is neither half stays as it is, and is no other half.
		"?": "?", "L?": " ?", "?R": "? ", "L?R": " ? ", "?LR?": "?LR?",
	} {
		cols := len(was)
		wantText(t, Mend(of(was), cols, 0), want)
		wantText(t, Mend(of(was+was+was), cols, 0), want+was+was)
		wantText(t, Mend(of(was+was+was), cols, 1), was+want+was)
		wantText(t, Mend(of(was+was+was), cols, 2), was+was+want)
		wantText(t, Mend(of(was+was+was), cols, 3), was+was+was)
		wantText(t, Mend(of(was+was+was), cols, -1), was+was+was)
	}
}

// TestMendGoesByHalfAlone: whatever rune and look a half has; what comes has none.
func TestMendGoesByHalfAlone(t *testing.T) {
	left, right := api.Cell{R: 'x', Attr: 0x123, Half: 1}, api.Cell{R: 'y', Attr: 0x456, Half: 2}
	none := api.Cell{R: ' '}
	for _, x := range []struct{ was, want []api.Cell }{
		{[]api.Cell{left, right}, []api.Cell{left, right}},
		{[]api.Cell{right, left}, []api.Cell{none, none}},
		{[]api.Cell{left, left, right}, []api.Cell{none, left, right}},
		{[]api.Cell{left, {R: 0, Attr: 7}}, []api.Cell{none, {R: 0, Attr: 7}}},
		{[]api.Cell{{Half: 1}, {Half: 2}}, []api.Cell{{Half: 1}, {Half: 2}}},
		{[]api.Cell{{Half: 255}, {Half: 2}}, []api.Cell{{Half: 255}, none}},
		{[]api.Cell{{Half: 1}, {Half: 254}}, []api.Cell{none, {Half: 254}}},
		{[]api.Cell{{}, {R: 0x10ffff, Attr: math.MaxUint16}}, []api.Cell{{}, {R: 0x10ffff, Attr: math.MaxUint16}}},
	} {
		want(t, Mend(x.was, len(x.was), 0), x.want, "Mend", x.was, len(x.was), 0)
	}
}

func TestMendAllRows(t *testing.T) {
	for cols := 1; cols <= 7; cols++ {
		for _, s := range patterns(cols, "aLR") {
			l := each(of(s))
			wantMend(t, l, cols, 0)
			once := Mend(l, cols, 0)
			want(t, Mend(once, cols, 0), once, "Mend", once, cols, 0)
		}
	}
}

// P8.3

// wantWhole: no half stands alone in any row of l.
func wantWhole(t *testing.T, l []api.Cell, cols int) {
	t.Helper()
	for y := range len(l) / cols {
		for x, c := range l[y*cols : (y+1)*cols] {
			at := y*cols + x
			alone := c.Half == 1 && (x+1 == cols || l[at+1].Half != 2) || c.Half == 2 && (x == 0 || l[at-1].Half != 1)
			if alone {
				t.Fatalf("half a rune at %d, %d of %s, %d columns", y, x, told(l), cols)
			}
		}
	}
}

// TestHalfARuneIsNone: a grid of whole runes is one behind any number of calls, whatever they are told.
func TestHalfARuneIsNone(t *testing.T) {
	r := rand.New(rand.NewSource(1))
	for range 200 {
		rows, cols := 1+r.Intn(5), 1+r.Intn(9)
		l := letters(rows * cols)
		for y := range rows {
			for x := r.Intn(2); x+1 < cols; x += 2 + r.Intn(2) {
				l[y*cols+x], l[y*cols+x+1] = api.Cell{R: 0x6f22, Half: 1}, api.Cell{Half: 2}
			}
		}
		for range 50 {
			wantWhole(t, l, cols)
			y, x, n := r.Intn(rows+2)-1, r.Intn(cols+3)-1, r.Intn(cols+3)-1
			switch r.Intn(6) {
			case 0:
				l = Insert(l, cols, y, x, n)
			case 1:
				l = Delete(l, cols, y, x, n)
			case 2:
				l = Erase(l, cols, y, x, n)
			case 3:
				l = Up(l, cols, y, r.Intn(rows), n)
			case 4:
				l = Down(l, cols, y, r.Intn(rows), n)
			case 5:
				rows2, cols2 := 1+r.Intn(5), 1+r.Intn(9)
				l = Size(l, rows, cols, rows2, cols2)
				rows, cols = rows2, cols2
			}
			if len(l) != rows*cols {
				t.Fatalf("%d cells; want %d rows of %d", len(l), rows, cols)
			}
		}
	}
}

// What holds everywhere

// allCalls answers what each call says of a grid of two rows and four columns, at right places and at wrong ones.
func allCalls(l []api.Cell) map[string][]api.Cell {
	return map[string][]api.Cell{
		"Up":           Up(l, 4, 0, 1, 1),
		"Up by 0":      Up(l, 4, 0, 1, 0),
		"Up of none":   Up(l, 4, 1, 0, 1),
		"Up of all":    Up(l, 4, 0, 1, 2),
		"Down":         Down(l, 4, 0, 1, 1),
		"Down by 0":    Down(l, 4, 0, 1, 0),
		"Down of none": Down(l, 3, 0, 1, 1),
		"Insert":       Insert(l, 4, 0, 1, 1),
		"Insert none":  Insert(l, 4, 2, 1, 1),
		"Insert 0":     Insert(l, 4, 1, 4, 0),
		"Delete":       Delete(l, 4, 0, 1, 1),
		"Delete none":  Delete(l, 4, 0, 5, 1),
		"Delete 0":     Delete(l, 4, 1, 4, 0),
		"Erase":        Erase(l, 4, 0, 1, 3),
		"Erase none":   Erase(l, 4, -1, 1, 3),
		"Erase 0":      Erase(l, 4, 1, 1, 1),
		"Size":         Size(l, 2, 4, 2, 4),
		"Size less":    Size(l, 2, 4, 1, 3),
		"Size more":    Size(l, 2, 4, 3, 5),
		"Size of none": Size(l, 4, 4, 3, 5),
		"Mend":         Mend(l, 4, 0),
		"Mend of none": Mend(l, 4, 2),
	}
}

func TestHandedInIsNeitherChangedNorKept(t *testing.T) {
	room := of("aLRLRLRzspare room")
	before := slices.Clone(room)
	answers := allCalls(room[:8])
	said := map[string]string{}
	for name, l := range answers {
		said[name] = told(l)
	}
	if !slices.Equal(room, before) {
		t.Fatalf("what was handed in is now %s", told(room))
	}
	for name, l := range answers {
		clear(l[:cap(l)])
		_ = append(l, of("more")...)
		if !slices.Equal(room, before) {
			t.Fatalf("what was handed in to %s is now %s", name, told(room))
		}
	}
	// The answers share nothing with it, nor with one another; what was handed in comes to the same again.
	answers = allCalls(room[:8])
	again := allCalls(room[:8])
	for name := range again {
		clear(again[name][:cap(again[name])])
	}
	clear(room)
	for name, l := range answers {
		if told(l) != said[name] {
			t.Errorf("%s the next time: %s; before: %s", name, told(l), said[name])
		}
	}
}

func TestBlankIsNew(t *testing.T) {
	l := Blank(2, 2)
	l[0].R = 'z'
	wantText(t, Blank(2, 2), "    ")
}

// wantAll holds all calls, whatever they are told, against the promises.
func wantAll(t *testing.T, s string, cols, a, b, n int) {
	t.Helper()
	l := each(of(s))
	wantUp(t, l, cols, a, b, n)
	wantDown(t, l, cols, a, b, n)
	wantInsert(t, l, cols, a, b, n)
	wantDelete(t, l, cols, a, b, n)
	wantErase(t, l, cols, a, b, n)
	wantMend(t, l, cols, a)
	wantSize(t, l, a, cols, b, n)
	if cols > 0 {
		wantSize(t, l, len(l)/cols, cols, b, n)
	}
}

func TestAnyCalls(t *testing.T) {
	r := rand.New(rand.NewSource(2))
	for range 20000 {
		cols := r.Intn(8)
		b := make([]byte, cols*r.Intn(5)+r.Intn(8)/7)
		for i := range b {
			b[i] = "aLRLR?"[r.Intn(6)]
		}
		wantAll(t, string(b), cols, r.Intn(7)-1, r.Intn(10)-1, r.Intn(10)-1)
	}
}

func FuzzCalls(f *testing.F) {
	f.Add("abLRcdefgh", 5, 0, 1, 2)
	f.Add("LRLRRLLR", 4, 1, 0, 3)
	f.Add("aabbcc", 2, 0, 2, -1)
	f.Fuzz(func(t *testing.T, s string, cols, a, b, n int) {
		wantAll(t, s, cols, a, b, n)
	})
}

package screen

import (
	"reprise/api"
	"reprise/grid"
	"reprise/width"
)

const (
	leftHalf  = 1
	rightHalf = 2

	backspace = 0x08
	tab       = 0x09
	newline   = 0x0a
	vertical  = 0x0b
	formFeed  = 0x0c
	carriage  = 0x0d
)

// do is Do of a screen that is right. It writes over s's lists, and hands them on.
func do(s api.Screen, a api.Act) api.Screen {
	switch a.Kind {
	case api.Print:
		return put(s, a.R)
	case api.Ctl:
		return control(s, a.B)
	case api.EscAct:
		if len(a.Inter) == 0 {
			return escape(s, a.B)
		}
	case api.CsiAct:
		if len(a.Inter) == 0 {
			return sequence(s, a)
		}
	}
	return s
}

// put writes r where the cursor is.
func put(s api.Screen, r rune) api.Screen {
	cells := width.Of(r)
	if cells == 0 {
		return s
	}
	if s.Wrap {
		s = nextLine(s)
	}
	if cells > s.Cols-s.X {
		if !s.Auto || cells > s.Cols {
			return s
		}
		s = nextLine(s)
	}
	write(s, r, cells)
	s.X += cells
	if s.X >= s.Cols {
		s.X, s.Wrap = s.Cols-1, s.Auto
	}
	return s
}

// write puts r into the one or two cells at the cursor.
func write(s api.Screen, r rune, cells int) {
	row := rowOf(s, s.Y)
	row[s.X] = api.Cell{R: r, Attr: s.Attr}
	if cells == 2 {
		row[s.X].Half = leftHalf
		row[s.X+1] = api.Cell{Attr: s.Attr, Half: rightHalf}
	}
	copy(row, grid.Mend(row, s.Cols, 0))
}

func control(s api.Screen, b byte) api.Screen {
	switch b {
	case backspace:
		s.X, s.Wrap = max(s.X-1, 0), false
	case tab:
		s.X, s.Wrap = nextTab(s), false
	case newline, vertical, formFeed:
		return lineFeed(s)
	case carriage:
		s.X, s.Wrap = 0, false
	}
	return s
}

// nextTab answers the next column with a tab, or the last column.
func nextTab(s api.Screen) int {
	for x := s.X + 1; x < s.Cols; x++ {
		if s.Tabs[x] {
			return x
		}
	}
	return s.Cols - 1
}

// lineFeed goes to the next row; at the region's end its rows go up instead.
func lineFeed(s api.Screen) api.Screen {
	s.Wrap = false
	switch s.Y {
	case s.Bottom:
		return up(s, s.Top, 1)
	case s.Rows - 1:
		// Below the region nothing goes up.
		return s
	}
	s.Y++
	return s
}

// nextLine goes to the next row's beginning.
func nextLine(s api.Screen) api.Screen {
	s.X = 0
	return lineFeed(s)
}

// lineBack goes to the row above; at the region's beginning its rows go down instead.
func lineBack(s api.Screen) api.Screen {
	s.Wrap = false
	switch s.Y {
	case s.Top:
		return down(s, s.Top, 1)
	case 0:
		return s
	}
	s.Y--
	return s
}

// up moves the rows from top to the region's end n rows up.
func up(s api.Screen, top, n int) api.Screen {
	s.Cells = grid.Up(s.Cells, s.Cols, top, s.Bottom, n)
	return s
}

// down moves the rows from top to the region's end n rows down.
func down(s api.Screen, top, n int) api.Screen {
	s.Cells = grid.Down(s.Cells, s.Cols, top, s.Bottom, n)
	return s
}

func escape(s api.Screen, b byte) api.Screen {
	switch b {
	case '7':
		s.SavedY, s.SavedX, s.SavedAttr = s.Y, s.X, s.Attr
	case '8':
		s.Y, s.X, s.Attr = s.SavedY, s.SavedX, s.SavedAttr
		s.Wrap = false
	case 'D':
		return lineFeed(s)
	case 'E':
		return nextLine(s)
	case 'M':
		return lineBack(s)
	case 'H':
		s.Tabs[s.X] = true
	case 'c':
		return fresh(s.Rows, s.Cols)
	}
	return s
}

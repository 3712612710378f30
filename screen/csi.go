package screen

import (
	"reprise/api"
	"reprise/grid"
)

// Modes that are switched on and off.
const (
	autoWrap    = 7
	cursorShown = 25
	otherCells  = 1049
)

// Where the two colours of Attr stand, and how many numbers of 'm' each has.
const (
	firstShift  = 4
	secondShift = 8
	colourBits  = 15
	colours     = 8
)

// sequence does a control sequence without Inter.
func sequence(s api.Screen, a api.Act) api.Screen {
	switch a.Private {
	case 0:
		return usual(s, a.Params, a.B)
	case '?':
		return private(s, a.Params, a.B)
	}
	return s
}

// usual does a control sequence that is not private.
func usual(s api.Screen, params []int, b byte) api.Screen {
	switch b {
	case 'A', 'B', 'C', 'D', 'G', '`', 'd', 'H', 'f':
		return move(s, params, b)
	case 'J', 'K', 'X':
		return erase(s, params, b)
	case 'L', 'M', 'S', 'T':
		return shiftRows(s, params, b)
	case '@', 'P':
		return shiftCells(s, params, b)
	case 'r':
		return region(s, params)
	case 'g':
		return dropTabs(s, params)
	case 'm':
		s.Attr = look(s.Attr, params)
	}
	return s
}

// number answers one of params, 1 for one that is left out or 0.
// It is cut off at MaxSize: beyond that nothing is another, and sums with it always fit.
func number(params []int, i int) int {
	if i >= len(params) || params[i] == 0 {
		return 1
	}
	return min(max(params[i], -api.MaxSize), api.MaxSize)
}

// choice answers the first of params as it is, 0 for none.
func choice(params []int) int {
	if len(params) == 0 {
		return 0
	}
	return params[0]
}

func move(s api.Screen, params []int, b byte) api.Screen {
	n := number(params, 0)
	y, x := s.Y, s.X
	switch b {
	case 'A':
		y -= n
	case 'B':
		y += n
	case 'C':
		x += n
	case 'D':
		x -= n
	case 'G', '`':
		x = n - 1
	case 'd':
		y = n - 1
	case 'H', 'f':
		y, x = n-1, number(params, 1)-1
	}
	s.Y, s.X = inside(s, y, x)
	s.Wrap = false
	return s
}

func erase(s api.Screen, params []int, b byte) api.Screen {
	s.Wrap = false
	row := s.Y * s.Cols
	switch b {
	case 'J':
		from, to := part(choice(params), row+s.X, s.Rows*s.Cols)
		eraseCells(s, from, to)
	case 'K':
		from, to := part(choice(params), s.X, s.Cols)
		eraseCells(s, row+from, row+to)
	case 'X':
		eraseCells(s, row+s.X, row+min(s.X+number(params, 0), s.Cols))
	}
	return s
}

// part answers which of all cells k means, from one up to another: those from the cursor's on, those up to it, all, none.
func part(k, cursor, all int) (int, int) {
	switch k {
	case 0:
		return cursor, all
	case 1:
		return 0, cursor + 1
	case 2:
		return 0, all
	}
	return 0, 0
}

// eraseCells makes the cells from one up to another blank, counted over all rows.
func eraseCells(s api.Screen, from, to int) {
	for y := range s.Rows {
		first := y * s.Cols
		if from < first+s.Cols && to > first {
			row := rowOf(s, y)
			copy(row, grid.Erase(row, s.Cols, 0, from-first, to-first))
		}
	}
}

func shiftRows(s api.Screen, params []int, b byte) api.Screen {
	n := number(params, 0)
	s.Wrap = false
	switch b {
	case 'S':
		return up(s, s.Top, n)
	case 'T':
		return down(s, s.Top, n)
	}
	if s.Y < s.Top || s.Y > s.Bottom {
		return s
	}
	s.X = 0
	if b == 'L' {
		return down(s, s.Y, n)
	}
	return up(s, s.Y, n)
}

func shiftCells(s api.Screen, params []int, b byte) api.Screen {
	n := number(params, 0)
	s.Wrap = false
	row := rowOf(s, s.Y)
	switch b {
	case '@':
		copy(row, grid.Insert(row, s.Cols, 0, s.X, n))
	case 'P':
		copy(row, grid.Delete(row, s.Cols, 0, s.X, n))
	}
	return s
}

// region sets which rows scroll.
func region(s api.Screen, params []int) api.Screen {
	top, bottom := number(params, 0)-1, s.Rows-1
	if len(params) > 1 && params[1] != 0 {
		bottom = min(number(params, 1)-1, bottom)
	}
	if !isRegion(s, top, bottom) {
		return s
	}
	s.Top, s.Bottom = top, bottom
	s.Y, s.X, s.Wrap = 0, 0, false
	return s
}

func dropTabs(s api.Screen, params []int) api.Screen {
	switch choice(params) {
	case 0:
		s.Tabs[s.X] = false
	case 3:
		clear(s.Tabs)
	}
	return s
}

// look answers attr behind the numbers of an 'm'.
func look(attr uint16, params []int) uint16 {
	if len(params) == 0 {
		return 0
	}
	for _, n := range params {
		attr = lookBehind(attr, n)
	}
	return attr
}

func lookBehind(attr uint16, n int) uint16 {
	switch n {
	case 0:
		return 0
	case 1:
		return attr | api.Bold
	case 4:
		return attr | api.Under
	case 7:
		return attr | api.Reverse
	case 22:
		return attr &^ api.Bold
	case 24:
		return attr &^ api.Under
	case 27:
		return attr &^ api.Reverse
	case 39:
		return withColour(attr, firstShift, 0)
	case 49:
		return withColour(attr, secondShift, 0)
	}
	switch {
	case n >= 30 && n < 30+colours:
		return withColour(attr, firstShift, n-30+1)
	case n >= 40 && n < 40+colours:
		return withColour(attr, secondShift, n-40+1)
	}
	return attr
}

func withColour(attr uint16, shift, colour int) uint16 {
	return attr&^(colourBits<<shift) | uint16(colour)<<shift
}

// private switches modes on and off.
func private(s api.Screen, params []int, b byte) api.Screen {
	if b != 'h' && b != 'l' {
		return s
	}
	on := b == 'h'
	for _, n := range params {
		switch n {
		case autoWrap:
			s.Auto = on
		case cursorShown:
			s.Shown = on
		case otherCells:
			s = other(s, on)
		}
	}
	return s
}

// other keeps the cells for later and begins with blank ones, or goes back to those that were kept.
func other(s api.Screen, on bool) api.Screen {
	if on == s.Alt {
		return s
	}
	s.Alt, s.Wrap = on, false
	if on {
		s.Other, s.OtherY, s.OtherX = s.Cells, s.Y, s.X
		s.Cells = grid.Blank(s.Rows, s.Cols)
		return s
	}
	s.Cells, s.Y, s.X = s.Other, s.OtherY, s.OtherX
	s.Other, s.OtherY, s.OtherX = nil, 0, 0
	return s
}

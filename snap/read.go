package snap

import (
	"math"

	"reprise/api"
	"reprise/leb"
	"reprise/runs"
	"reprise/screen"
)

// reader: bytes that are read part by part. Behind a part that is wrong nothing is left, so that all others are wrong as well.
type reader struct {
	rest  []byte
	wrong bool
}

// Read answers the screen whose bytes are all of b.
func Read(b []byte) (api.Screen, api.Errno) {
	r := reader{rest: b}
	s := r.screen()
	if r.wrong || len(r.rest) > 0 || !screen.Right(s) {
		return api.Screen{}, api.ErrBytes
	}
	return s, api.OK
}

func (r *reader) screen() api.Screen {
	var s api.Screen
	s.Rows, s.Cols = r.place()
	s.Y, s.X = r.place()
	bits := r.number(bitsEnd - 1)
	s.Wrap, s.Auto = bits&wrapBit != 0, bits&autoBit != 0
	s.Shown, s.Alt = bits&shownBit != 0, bits&altBit != 0
	s.Attr = uint16(r.number(math.MaxUint16))
	s.Top, s.Bottom = r.place()
	s.SavedY, s.SavedX = r.place()
	s.SavedAttr = uint16(r.number(math.MaxUint16))
	s.Tabs = r.tabs(s.Cols)
	s.Cells = r.cells(s.Rows * s.Cols)
	if s.Alt {
		s.OtherY, s.OtherX = r.place()
		s.Other = r.cells(s.Rows * s.Cols)
	}
	s.P = r.parser()
	return s
}

func (r *reader) parser() api.Parser {
	var p api.Parser
	p.Mode = r.number(api.Str)
	p.Private = byte(r.number(math.MaxUint8))
	for range r.number(api.MaxParams) {
		p.Params = append(p.Params, r.number(api.MaxParam))
	}
	p.Inter = r.bytes()
	p.Utf = r.bytes()
	return p
}

// number reads a number of at most most: held against that as it is, since cut to a field's type a greater one would be another.
func (r *reader) number(most uint64) int {
	n, size, errno := leb.Read(r.rest)
	if errno != api.OK || n > most {
		r.fail()
		return 0
	}
	r.rest = r.rest[size:]
	return int(n)
}

// place reads two numbers of rows and columns.
func (r *reader) place() (int, int) {
	y := r.number(api.MaxSize)
	x := r.number(api.MaxSize)
	return y, x
}

func (r *reader) tabs(cols int) []bool {
	var out []bool
	for range cols {
		// The number 0 or 1 is a byte of 0 or 1, and has no other form.
		out = append(out, r.number(1) == 1)
	}
	return out
}

func (r *reader) cells(n int) []api.Cell {
	out, size, errno := runs.Read(r.rest, n)
	if errno != api.OK {
		r.fail()
		return nil
	}
	r.rest = r.rest[size:]
	return out
}

func (r *reader) bytes() []byte {
	// However many there are: whether they may be, screen.Right tells.
	out, size, errno := leb.ReadBytes(r.rest, len(r.rest))
	if errno != api.OK {
		r.fail()
		return nil
	}
	r.rest = r.rest[size:]
	return out
}

func (r *reader) fail() {
	r.rest, r.wrong = nil, true
}

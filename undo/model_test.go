package undo

import (
	"fmt"
	"math"
	"regexp"
	"slices"
	"strconv"
	"strings"
	"testing"

	"reprise/api"
)

// A story: calls one behind another: 't' a Save that is typed, 'o' another Save, '|' a Break, '<' a Back.

// told plays a story on a new stack, its Saves of the lines of 0, 1 .., and tells what it comes to.
func told(story string) string {
	return toldOn(New(), story)
}

// toldOn tells of each call of a story how many lines are kept then, of a Back as well which one it answered.
func toldOn(s *Stack, story string) string {
	out := []string{}
	n := 0
	for _, call := range story {
		back := ""
		switch call {
		case 't', 'o':
			s.Save(lineOf(n), call == 't')
			n++
		case '|':
			s.Break()
		case '<':
			back = saidBack(s.Back()) + ":"
		}
		out = append(out, back+strconv.Itoa(s.Len()))
	}
	return strings.Join(out, " ")
}

// saidBack tells which of the lines of 0, 1 .. a Back answered, "-" of none.
func saidBack(l api.Line, ok bool) string {
	n, err := strconv.Atoi(string(l.R))
	switch {
	case !ok && same(l, api.Line{}):
		return "-"
	case ok && err == nil && same(l, lineOf(n)):
		return strconv.Itoa(n)
	}
	return fmt.Sprint("wrong ", said(l), ok)
}

// backs tells which lines come back, the newest first, until there is none.
func backs(s *Stack) string {
	out := []string{}
	for s.Len() > 0 && len(out) <= 2*api.MaxUndo {
		out = append(out, saidBack(s.Back()))
	}
	return strings.Join(append(out, saidBack(s.Back())), " ")
}

// lineOf answers a line that tells its number, its place anywhere in it.
func lineOf(n int) api.Line {
	r := []rune(strconv.Itoa(n))
	return api.Line{R: r, At: n % (len(r) + 1)}
}

func said(l api.Line) string {
	return fmt.Sprintf("%x@%d (%d runes)", l.R[:min(len(l.R), 20)], l.At, len(l.R))
}

func same(a, b api.Line) bool {
	return slices.Equal(a.R, b.R) && a.At == b.At
}

func cloned(l api.Line) api.Line {
	return api.Line{R: slices.Clip(slices.Clone(l.R)), At: l.At}
}

// The promises, by other means: what is kept anew hangs on how the story ends that was told so far.

// model: a story in which a typed Save is 'K' where it was kept and 't' where it wasn't, and what is kept of it.
type model struct {
	story []byte
	kept  []api.Line
}

// goesOn: the Save ahead was typed, and fewer than MaxGroup were since one was kept, that one among them.
var goesOn = regexp.MustCompile(fmt.Sprintf("Kt{0,%d}$", api.MaxGroup-2))

func (m *model) save(l api.Line, typed bool) {
	call := byte('o')
	if typed {
		call = 'K'
		if goesOn.Match(m.story[max(len(m.story)-api.MaxGroup, 0):]) {
			call = 't'
		}
	}
	m.story = append(m.story, call)
	if call != 't' {
		m.kept = append(m.kept, cloned(l))
	}
	if len(m.kept) > api.MaxUndo {
		m.kept = slices.Delete(m.kept, 0, 1)
	}
}

func (m *model) back() (l api.Line, ok bool) {
	m.story = append(m.story, '<')
	if n := len(m.kept); n > 0 {
		l, ok = m.kept[n-1], true
		m.kept = m.kept[:n-1]
	}
	return l, ok
}

// pair: a stack and the model of it, which are told the same.
type pair struct {
	t    *testing.T
	s    *Stack
	want model
}

func newPair(t *testing.T) *pair {
	return &pair{t: t, s: New()}
}

func (p *pair) save(l api.Line, typed bool) {
	p.t.Helper()
	was := cloned(l)
	p.s.Save(l, typed)
	p.want.save(l, typed)
	if !same(l, was) {
		p.t.Fatalf("behind %s: Save(%s, %v) has changed it: %s", p.told(), said(was), typed, said(l))
	}
	p.wantLen()
}

func (p *pair) breaks() {
	p.t.Helper()
	p.s.Break()
	p.want.story = append(p.want.story, '|')
	p.wantLen()
}

func (p *pair) back() (api.Line, bool) {
	p.t.Helper()
	l, ok := p.s.Back()
	if want, wantOk := p.want.back(); !same(l, want) || ok != wantOk {
		p.t.Fatalf("behind %s: Back: %s, %v; want %s, %v", p.told(), said(l), ok, said(want), wantOk)
	}
	p.wantLen()
	return l, ok
}

func (p *pair) wantLen() {
	p.t.Helper()
	if got := p.s.Len(); got != len(p.want.kept) {
		p.t.Fatalf("behind %s: Len: %d; want %d", p.told(), got, len(p.want.kept))
	}
}

// backs goes back to where nothing is kept, and once more.
func (p *pair) backs() {
	p.t.Helper()
	for ok := true; ok; {
		_, ok = p.back()
	}
}

// play plays a story, its lines numbered from the one of first on.
func (p *pair) play(story string, first int) {
	p.t.Helper()
	for i, call := range story {
		switch call {
		case 't', 'o':
			p.save(lineOf(first+i), call == 't')
		case '|':
			p.breaks()
		case '<':
			p.back()
		}
	}
}

// told tells the end of the story so far.
func (p *pair) told() string {
	s := p.want.story
	return fmt.Sprintf("%d calls, at last %q", len(s), s[max(len(s)-60, 0):])
}

// What the tests go through.

// stories calls f with each story of at most n calls.
func stories(n int, f func(string)) {
	for level := []string{""}; n >= 0; n-- {
		next := []string{}
		for _, story := range level {
			f(story)
			for _, call := range "to|<" {
				next = append(next, story+string(call))
			}
		}
		level = next
	}
}

// someLines: of no runes, of a few, of MaxLine, the place at both ends; and of those that can't be any.
func someLines() []api.Line {
	return append(linesThatCanBe(),
		api.Line{At: 1},
		api.Line{At: -1},
		api.Line{At: math.MinInt},
		api.Line{At: math.MaxInt},
		api.Line{R: []rune("abc"), At: 4},
		api.Line{R: []rune("abc"), At: -1},
		api.Line{R: []rune("abc"), At: math.MinInt},
		api.Line{R: []rune("abc"), At: math.MaxInt},
		api.Line{R: []rune{-1}},
		api.Line{R: []rune{'a', 0xd800, 0xdfff, 'b'}, At: 2},
		api.Line{R: []rune{0x110000, math.MinInt32, math.MaxInt32}, At: 3},
		api.Line{R: letters(api.MaxLine + 1)},
		api.Line{R: letters(api.MaxLine + 1), At: api.MaxLine + 1},
		api.Line{R: letters(3 * api.MaxLine), At: -7},
	)
}

func linesThatCanBe() []api.Line {
	return []api.Line{
		{},
		{R: []rune{}},
		{R: letters(3)[:0]},
		{R: []rune{'a'}},
		{R: []rune{'a'}, At: 1},
		{R: []rune("ls -l"), At: 2},
		{R: []rune{0x6f22, 0x301, 0, '\n', 0x10ffff}, At: 5},
		{R: letters(api.MaxLine - 1), At: api.MaxLine - 1},
		{R: letters(api.MaxLine)},
		{R: letters(api.MaxLine), At: 1000},
		{R: letters(api.MaxLine), At: api.MaxLine},
	}
}

// letters answers n runes, each another one than its neighbours.
func letters(n int) []rune {
	out := make([]rune, n)
	for i := range out {
		out[i] = 'a' + rune(i%26)
	}
	return out
}

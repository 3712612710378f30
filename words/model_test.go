package words

import (
	"fmt"
	"math"
	"regexp"
	"slices"
	"strings"
	"testing"
	"unicode/utf8"

	"reprise/api"
	"reprise/line"
)

// of tells a line of a text, its place at |.
func of(s string) api.Line {
	ahead, behind, _ := strings.Cut(s, "|")
	return api.Line{R: []rune(ahead + behind), At: len([]rune(ahead))}
}

// told tells a line as the text of which it is; what no text is of, in braces.
func told(l api.Line) string {
	if len(l.R) > 100 {
		return fmt.Sprintf("{%d runes, %d}", len(l.R), l.At)
	}
	if l.At >= 0 && l.At <= len(l.R) {
		s := string(l.R[:l.At]) + "|" + string(l.R[l.At:])
		if same(of(s), l) {
			return s
		}
	}
	return fmt.Sprintf("{%x, %d}", l.R, l.At)
}

func same(a, b api.Line) bool {
	return slices.Equal(a.R, b.R) && a.At == b.At
}

// allLines calls f with each line of up to most of these runes, at each of its places.
func allLines(runes []rune, most int, f func(m model)) {
	var grow func(r []rune)
	grow = func(r []rune) {
		m := modelOf(api.Line{R: r})
		for at := range len(r) + 1 {
			m.l.At = at
			f(m)
		}
		if len(r) == most {
			return
		}
		for _, one := range runes {
			grow(append(slices.Clone(r), one))
		}
	}
	grow(nil)
}

// someTimes answers numbers of hops: all that are near to 0 to most, and what is far from it.
func someTimes(most int) []int {
	out := []int{math.MinInt, math.MinInt + 1, -1 << 62, -1<<32 - 1, -1 << 32, -api.MaxLine - 1, api.MaxLine + 1, 1 << 32, 1<<32 + 1, 1 << 62, math.MaxInt - 1, math.MaxInt}
	for n := -most - 2; n <= most+2; n++ {
		out = append(out, n)
	}
	return out
}

// The promises, by other means: a regular expression says where words and the parts between spaces are.

// span of runes.
type span struct{ from, to int }

// model of a line: its words, its runs of spaces, its parts without one.
type model struct {
	l                     api.Line
	words, spaces, solids []span
}

var (
	wordForm  = regexp.MustCompile("[a-zA-Z0-9\u00a0-\U0010ffff]+")
	spaceForm = regexp.MustCompile(" +")
	solidForm = regexp.MustCompile("[^ ]+")
)

func modelOf(l api.Line) model {
	return model{l: l, words: spans(l, wordForm), spaces: spans(l, spaceForm), solids: spans(l, solidForm)}
}

func spans(l api.Line, form *regexp.Regexp) []span {
	s := string(l.R)
	var out []span
	bytes, runes := 0, 0
	for _, x := range form.FindAllStringIndex(s, -1) {
		from := runes + utf8.RuneCountInString(s[bytes:x[0]])
		bytes, runes = x[1], from+utf8.RuneCountInString(s[x[0]:x[1]])
		out = append(out, span{from, runes})
	}
	return out
}

// behind tells the n-th end of those that are farther on than the line's place; the line's, if there is none.
func (m model) behind(list []span, n int) int {
	at := m.l.At
	for _, x := range list {
		if x.to > m.l.At && n > 0 {
			at, n = x.to, n-1
		}
	}
	if n > 0 {
		return len(m.l.R)
	}
	return at
}

// ahead tells the n-th beginning to the left of the line's place; 0, if there is none.
func (m model) ahead(list []span, n int) int {
	at := m.l.At
	for _, x := range slices.Backward(list) {
		if x.from < m.l.At && n > 0 {
			at, n = x.from, n-1
		}
	}
	if n > 0 {
		return 0
	}
	return at
}

// forward: by n, or the other way by -n; as many as there are runes are all.
func (m model) forward(n int) int {
	switch {
	case n >= 0:
		return m.behind(m.words, n)
	case n < -len(m.l.R):
		return m.ahead(m.words, len(m.l.R))
	}
	return m.ahead(m.words, -n)
}

func (m model) back(n int) int {
	switch {
	case n >= 0:
		return m.ahead(m.words, n)
	case n < -len(m.l.R):
		return m.behind(m.words, len(m.l.R))
	}
	return m.behind(m.words, -n)
}

func (m model) next(n int) int { return m.behind(m.spaces, n) }

func (m model) prev(n int) int { return m.ahead(m.solids, n) }

const (
	smalls = "abcdefghijklmnopqrstuvwxyz"
	greats = "ABCDEFGHIJKLMNOPQRSTUVWXYZ"
)

func swapped(r rune, from, to string) rune {
	if i := strings.IndexRune(from, r); i >= 0 {
		return rune(to[i])
	}
	return r
}

func (m model) turned(n, how int) api.Line {
	if how != 0 && how != 1 && how != 2 {
		return m.l
	}
	other := m.forward(n)
	from, to := min(m.l.At, other), max(m.l.At, other)
	out := api.Line{R: slices.Clone(m.l.R), At: to}
	for i := from; i < to; i++ {
		if how == 0 {
			out.R[i] = swapped(out.R[i], smalls, greats)
		} else {
			out.R[i] = swapped(out.R[i], greats, smalls)
		}
	}
	for _, w := range m.words {
		first := w.from
		if n >= 0 && w.from < m.l.At && m.l.At < w.to {
			first = m.l.At
		}
		if how == 2 && first >= from && first < to {
			out.R[first] = swapped(out.R[first], smalls, greats)
		}
	}
	return out
}

func (m model) exchanged() (api.Line, bool) {
	i := slices.IndexFunc(m.words, func(w span) bool { return w.to > m.l.At })
	if i < 0 {
		i = len(m.words) - 1
	}
	if i < 1 {
		return m.l, false
	}
	a, b, r := m.words[i-1], m.words[i], m.l.R
	return api.Line{R: slices.Concat(r[:a.from], r[b.from:b.to], r[a.to:b.from], r[a.from:a.to], r[b.to:]), At: b.to}, true
}

// want holds an answered line against the one that is wanted.
func want(t *testing.T, got, want, l api.Line, call ...any) {
	t.Helper()
	if !same(got, want) || !line.Right(got) {
		t.Fatalf("%v of %s: %s; want %s", call, told(l), told(got), told(want))
	}
}

func wantPlaces(t *testing.T, m model, n int) {
	t.Helper()
	for _, x := range []struct {
		name      string
		got, want int
	}{
		{"Forward", Forward(m.l, n), m.forward(n)},
		{"Back", Back(m.l, n), m.back(n)},
		{"Next", Next(m.l, n), m.next(n)},
		{"Prev", Prev(m.l, n), m.prev(n)},
	} {
		if x.got != x.want {
			t.Fatalf("%s(%s, %d): %d; want %d", x.name, told(m.l), n, x.got, x.want)
		}
	}
}

func wantCase(t *testing.T, m model, n, how int) {
	t.Helper()
	want(t, Case(m.l, n, how), m.turned(n, how), m.l, "Case", n, how)
}

func wantSwap(t *testing.T, m model) {
	t.Helper()
	wanted, ok := m.exchanged()
	got, gotOk := Swap(m.l)
	want(t, got, wanted, m.l, "Swap")
	if gotOk != ok {
		t.Fatalf("Swap(%s): %v", told(m.l), gotOk)
	}
}

func wantAll(t *testing.T, m model, n int) {
	t.Helper()
	wantPlaces(t, m, n)
	for _, how := range []int{math.MinInt, -1, 0, 1, 2, 3, 4, 1 << 32, math.MaxInt} {
		wantCase(t, m, n, how)
	}
	wantSwap(t, m)
}

// wantSaid holds an answer against a text, its place at |.
func wantSaid(t *testing.T, got api.Line, want string, name ...any) {
	t.Helper()
	if told(got) != want {
		t.Errorf("%v: %s; want %s", name, told(got), want)
	}
}

package line

import (
	"fmt"
	"math"
	"slices"
	"strings"
	"testing"

	"reprise/api"
)

// of tells a line of a text, its place at |.
func of(s string) api.Line {
	ahead, behind, _ := strings.Cut(s, "|")
	return api.Line{R: []rune(ahead + behind), At: len([]rune(ahead))}
}

// told tells a line as the text of which it is; what no text is of, in braces.
func told(l api.Line) string {
	if len(l.R) > 100 {
		return fmt.Sprintf("{%d runes, %d}", len(l.R), l.At)
	}
	if l.At >= 0 && l.At <= len(l.R) {
		s := string(l.R[:l.At]) + "|" + string(l.R[l.At:])
		if same(of(s), l) {
			return s
		}
	}
	return fmt.Sprintf("{%x, %d}", l.R, l.At)
}

func same(a, b api.Line) bool {
	return slices.Equal(a.R, b.R) && a.At == b.At
}

// letters tells n runes, narrow ones and wide ones, each one other than the ones near to it.
func letters(n int) []rune {
	l := make([]rune, n)
	for i := range l {
		l[i] = rune('a' + i%26)
		if i%3 == 2 {
			l[i] = rune(0x6f00 + i%256)
		}
	}
	return l
}

// someLines answers lines of up to five runes, each at all its places.
func someLines() []api.Line {
	var out []api.Line
	for n := range 6 {
		for at := range n + 1 {
			out = append(out, api.Line{R: letters(n), At: at}, api.Line{R: slices.Repeat([]rune{'x'}, n), At: at})
		}
	}
	return append(out, of("e\u0301|\u6f22"), of("\x00|\U0010ffff\ud7ff\ue000\ufffd"), of(" \t\n| "))
}

// someTexts answers what is put in, where nothing is wrong with it.
func someTexts() [][]rune {
	return [][]rune{nil, {}, {'x'}, {'X', 'Y'}, {0}, {0x10ffff}, {0xd7ff, 0xe000}, {0xfffd}, {0x6f22, 0x5b57, '!'}, []rune("eight..."), letters(70)}
}

// noRunes answers numbers that are no runes, the nearest ones to those that are among them.
func noRunes() []rune {
	return []rune{math.MinInt32, math.MinInt32 + 1, -0x10ffff, -'a', -2, -1, 0xd800, 0xd801, 0xdabc, 0xdbff, 0xdc00, 0xdffe, 0xdfff, 0x110000, 0x110001, 0x1000061, math.MaxInt32 - 1, math.MaxInt32}
}

// edgeRunes answers runes that no other ones are beside.
func edgeRunes() []rune {
	return []rune{0, 1, 0x7f, 0x80, 0x7ff, 0x800, 0xd7fe, 0xd7ff, 0xe000, 0xe001, 0xfffd, 0xfffe, 0xffff, 0x10000, 0x10fffe, 0x10ffff}
}

// placesAround tells all that is near to 0 to most, and what is far from it.
func placesAround(most int) []int {
	out := []int{math.MinInt, math.MinInt + 1, -1 << 62, -1 << 32, -api.MaxLine, api.MaxLine, api.MaxLine + 1, 1 << 32, 1<<32 + 1, 1 << 62, math.MaxInt - 1, math.MaxInt}
	for n := -most - 2; n <= most+2; n++ {
		out = append(out, n)
	}
	return out
}

// The promises word by word: a line rune by rune.

func wantedRune(r rune) bool {
	return r >= 0 && r < 0xd800 || r >= 0xe000 && r < 0x110000
}

func wantedRight(l api.Line) bool {
	for _, r := range l.R {
		if !wantedRune(r) {
			return false
		}
	}
	return len(l.R) <= 65536 && l.At >= 0 && l.At <= len(l.R)
}

func wantedInsert(l api.Line, t []rune) (api.Line, bool) {
	if slices.ContainsFunc(t, func(r rune) bool { return !wantedRune(r) }) || len(l.R)+len(t) > 65536 {
		return l, false
	}
	return api.Line{R: slices.Insert(slices.Clone(l.R), l.At, t...), At: l.At + len(t)}, true
}

// wantedWithin: the nearest, found step by step from either end.
func wantedWithin(l api.Line, at int) int {
	switch {
	case at < 0:
		return 0
	case at > len(l.R):
		return len(l.R)
	}
	return at
}

// wantedDelete: the place stays behind those of the runes ahead of it that stay.
func wantedDelete(l api.Line, from, to int) (api.Line, []rune) {
	from, to = wantedWithin(l, from), wantedWithin(l, to)
	if from > to {
		from, to = to, from
	}
	var out api.Line
	var gone []rune
	for i, r := range l.R {
		if i >= from && i < to {
			gone = append(gone, r)
			continue
		}
		out.R = append(out.R, r)
		if i < l.At {
			out.At++
		}
	}
	return out, gone
}

func wantedMove(l api.Line, n int) api.Line {
	at := l.At
	for ; n > 0 && at < len(l.R); n-- {
		at++
	}
	for ; n < 0 && at > 0; n++ {
		at--
	}
	return api.Line{R: l.R, At: at}
}

func wantedTo(l api.Line, at int) api.Line {
	return api.Line{R: l.R, At: wantedWithin(l, at)}
}

// wantedPut: the place is as far from the line's beginning as it was, or from its end, or, of runes that went, behind t.
func wantedPut(l api.Line, from, to int, t []rune) (api.Line, bool) {
	from, to = wantedWithin(l, from), wantedWithin(l, to)
	first, last := min(from, to), max(from, to)
	if slices.ContainsFunc(t, func(r rune) bool { return !wantedRune(r) }) || len(l.R)-(last-first)+len(t) > 65536 {
		return l, false
	}
	out := api.Line{R: slices.Concat(l.R[:first], t, l.R[last:])}
	switch {
	case l.At < first:
		out.At = l.At
	case l.At > last:
		out.At = len(out.R) - (len(l.R) - l.At)
	default:
		out.At = first + len(t)
	}
	return out, true
}

func wantedSwap(l api.Line) (api.Line, bool) {
	n := len(l.R)
	switch {
	case l.At == 0 || n < 2:
		return l, false
	case l.At == n:
		return api.Line{R: slices.Concat(l.R[:n-2], []rune{l.R[n-1], l.R[n-2]}), At: n}, true
	}
	return api.Line{R: slices.Concat(l.R[:l.At-1], []rune{l.R[l.At], l.R[l.At-1]}, l.R[l.At+1:]), At: l.At + 1}, true
}

func wantedText(l api.Line) string {
	var out strings.Builder
	for _, r := range l.R {
		out.WriteRune(r)
	}
	return out.String()
}

// want holds an answered line against the one that is wanted, and against what every answer is.
func want(t *testing.T, got, want api.Line, l api.Line, call ...any) {
	t.Helper()
	if !same(got, want) {
		t.Fatalf("%v of %s: %s; want %s", call, told(l), told(got), told(want))
	}
	if !wantedRight(got) || !Right(got) {
		t.Fatalf("%v of %s: %s isn't Right", call, told(l), told(got))
	}
}

func wantInsert(t *testing.T, l api.Line, text []rune) {
	t.Helper()
	wanted, ok := wantedInsert(l, text)
	got, gotOk := Insert(l, text)
	want(t, got, wanted, l, "Insert", short(text))
	if gotOk != ok {
		t.Fatalf("Insert(%s, %s): %v", told(l), short(text), gotOk)
	}
}

func wantDelete(t *testing.T, l api.Line, from, to int) {
	t.Helper()
	wanted, gone := wantedDelete(l, from, to)
	got, gotGone := Delete(l, from, to)
	want(t, got, wanted, l, "Delete", from, to)
	if !slices.Equal(gotGone, gone) {
		t.Fatalf("Delete(%s, %d, %d): %s went; want %s", told(l), from, to, short(gotGone), short(gone))
	}
}

func wantPut(t *testing.T, l api.Line, from, to int, text []rune) {
	t.Helper()
	wanted, ok := wantedPut(l, from, to, text)
	got, gotOk := Put(l, from, to, text)
	want(t, got, wanted, l, "Put", from, to, short(text))
	if gotOk != ok {
		t.Fatalf("Put(%s, %d, %d, %s): %v", told(l), from, to, short(text), gotOk)
	}
}

func wantPlaces(t *testing.T, l api.Line, n int) {
	t.Helper()
	want(t, Move(l, n), wantedMove(l, n), l, "Move", n)
	want(t, To(l, n), wantedTo(l, n), l, "To", n)
}

func wantSwap(t *testing.T, l api.Line) {
	t.Helper()
	wanted, ok := wantedSwap(l)
	got, gotOk := Swap(l)
	want(t, got, wanted, l, "Swap")
	if gotOk != ok {
		t.Fatalf("Swap(%s): %v", told(l), gotOk)
	}
}

func wantText(t *testing.T, l api.Line) {
	t.Helper()
	if got := Text(l); got != wantedText(l) {
		t.Fatalf("Text(%s): %q; want %q", told(l), got, wantedText(l))
	}
}

// short tells runes, of many of them only how many they are.
func short(l []rune) string {
	if len(l) > 100 {
		return fmt.Sprintf("{%d runes}", len(l))
	}
	return fmt.Sprintf("%q", l)
}

// wantSaid holds an answer against a text, its place at |.
func wantSaid(t *testing.T, got api.Line, want string, name ...any) {
	t.Helper()
	if told(got) != want {
		t.Errorf("%v: %s; want %s", name, told(got), want)
	}
}

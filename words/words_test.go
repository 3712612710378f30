package words

import (
	"math"
	"math/rand"
	"slices"
	"strings"
	"testing"

	"reprise/api"
	"reprise/line"
)

// P12.1: Is

func TestIsByHand(t *testing.T) {
	for _, x := range []struct {
		of   string
		r    []rune
		want bool
	}{
		{"ahead of digits", []rune{'/', '.', '!', ' '}, false},
		{"digits", []rune{'0', '1', '5', '8', '9'}, true},
		{"behind digits", []rune{':', ';', '?'}, false},
		{"ahead of great letters", []rune{'@'}, false},
		{"great letters", []rune{'A', 'B', 'M', 'Y', 'Z'}, true},
		{"from great to small letters", []rune{'[', '\\', ']', '^', '_', '`'}, false},
		{"small letters", []rune{'a', 'b', 'm', 'y', 'z'}, true},
		{"behind small letters", []rune{'{', '|', '}', '~'}, false},
		{"control bytes", []rune{0, 1, '\t', '\n', '\r', 0x1b, 0x1f, 0x7f}, false},
		{"the other control bytes", []rune{0x80, 0x81, 0x85, 0x9e, 0x9f}, false},
		{"from 0xa0 on", []rune{0xa0, 0xa1, 0xa2, 0xb5, 0xc0, 0xe9, 0x100, 0x130, 0x301, 0x2003, 0x3000, 0x6f22, 0xd7ff, 0xe000, 0xfffd, 0xffff, 0x10000, 0x1f600, 0x10ffff}, true},
		{"no runes", []rune{math.MinInt32, -0x6f22, -'a', -2, -1}, false},
		{"no runes from 0xa0 on", []rune{0xd800, 0xdfff, 0x110000, math.MaxInt32}, true},
	} {
		for _, r := range x.r {
			if Is(r) != x.want {
				t.Errorf("Is(%x), %s: %v", r, x.of, !x.want)
			}
		}
	}
}

// TestIsAll: each number near to a rune.
func TestIsAll(t *testing.T) {
	for r := rune(-300); r <= 0x110000+300; r++ {
		want := r >= 0xa0 || r >= 0 && strings.IndexByte(smalls+greats+"0123456789", byte(r)) >= 0
		if Is(r) != want {
			t.Fatalf("Is(%x): %v", r, !want)
		}
	}
}

// P12.1: Forward, Back, Next, Prev

// TestPlacesByHand: each place of some lines, by 1, 2, 3, -1 and -2.
func TestPlacesByHand(t *testing.T) {
	type row struct{ one, two, three, left, left2 int }
	type calls struct{ forward, back, next, prev []row }
	for text, want := range map[string]calls{
		"": {
			forward: []row{{}},
			back:    []row{{}},
			next:    []row{{}},
			prev:    []row{{}},
		},
		"ab": {
			forward: []row{{2, 2, 2, 0, 0}, {2, 2, 2, 0, 0}, {2, 2, 2, 0, 0}},
			back:    []row{{0, 0, 0, 2, 2}, {0, 0, 0, 2, 2}, {0, 0, 0, 2, 2}},
			next:    []row{{2, 2, 2, 0, 0}, {2, 2, 2, 1, 1}, {2, 2, 2, 2, 2}},
			prev:    []row{{0, 0, 0, 0, 0}, {0, 0, 0, 1, 1}, {0, 0, 0, 2, 2}},
		},
		// Nothing but runes that are no word's.
		" - ": {
			forward: []row{{3, 3, 3, 0, 0}, {3, 3, 3, 0, 0}, {3, 3, 3, 0, 0}, {3, 3, 3, 0, 0}},
			back:    []row{{0, 0, 0, 3, 3}, {0, 0, 0, 3, 3}, {0, 0, 0, 3, 3}, {0, 0, 0, 3, 3}},
			next:    []row{{1, 3, 3, 0, 0}, {3, 3, 3, 1, 1}, {3, 3, 3, 2, 2}, {3, 3, 3, 3, 3}},
			prev:    []row{{0, 0, 0, 0, 0}, {0, 0, 0, 1, 1}, {1, 0, 0, 2, 2}, {1, 0, 0, 3, 3}},
		},
		// Words at the very beginning and at the very end, one and several runes between them.
		"ab c-_dé": {
			forward: []row{{2, 4, 8, 0, 0}, {2, 4, 8, 0, 0}, {4, 8, 8, 0, 0}, {4, 8, 8, 0, 0}, {8, 8, 8, 3, 0}, {8, 8, 8, 3, 0}, {8, 8, 8, 3, 0}, {8, 8, 8, 6, 3}, {8, 8, 8, 6, 3}},
			back:    []row{{0, 0, 0, 2, 4}, {0, 0, 0, 2, 4}, {0, 0, 0, 4, 8}, {0, 0, 0, 4, 8}, {3, 0, 0, 8, 8}, {3, 0, 0, 8, 8}, {3, 0, 0, 8, 8}, {6, 3, 0, 8, 8}, {6, 3, 0, 8, 8}},
			next:    []row{{3, 8, 8, 0, 0}, {3, 8, 8, 1, 1}, {3, 8, 8, 2, 2}, {8, 8, 8, 3, 3}, {8, 8, 8, 4, 4}, {8, 8, 8, 5, 5}, {8, 8, 8, 6, 6}, {8, 8, 8, 7, 7}, {8, 8, 8, 8, 8}},
			prev:    []row{{0, 0, 0, 0, 0}, {0, 0, 0, 1, 1}, {0, 0, 0, 2, 2}, {0, 0, 0, 3, 3}, {3, 0, 0, 4, 4}, {3, 0, 0, 5, 5}, {3, 0, 0, 6, 6}, {3, 0, 0, 7, 7}, {3, 0, 0, 8, 8}},
		},
		// Spaces at both ends; a tab is none.
		"  a\t  b ": {
			forward: []row{{3, 7, 8, 0, 0}, {3, 7, 8, 0, 0}, {3, 7, 8, 0, 0}, {7, 8, 8, 2, 0}, {7, 8, 8, 2, 0}, {7, 8, 8, 2, 0}, {7, 8, 8, 2, 0}, {8, 8, 8, 6, 2}, {8, 8, 8, 6, 2}},
			back:    []row{{0, 0, 0, 3, 7}, {0, 0, 0, 3, 7}, {0, 0, 0, 3, 7}, {2, 0, 0, 7, 8}, {2, 0, 0, 7, 8}, {2, 0, 0, 7, 8}, {2, 0, 0, 7, 8}, {6, 2, 0, 8, 8}, {6, 2, 0, 8, 8}},
			next:    []row{{2, 6, 8, 0, 0}, {2, 6, 8, 1, 1}, {6, 8, 8, 2, 2}, {6, 8, 8, 3, 3}, {6, 8, 8, 4, 4}, {6, 8, 8, 5, 5}, {8, 8, 8, 6, 6}, {8, 8, 8, 7, 7}, {8, 8, 8, 8, 8}},
			prev:    []row{{0, 0, 0, 0, 0}, {0, 0, 0, 1, 1}, {0, 0, 0, 2, 2}, {2, 0, 0, 3, 3}, {2, 0, 0, 4, 4}, {2, 0, 0, 5, 5}, {2, 0, 0, 6, 6}, {6, 2, 0, 7, 7}, {6, 2, 0, 8, 8}},
		},
	} {
		for name, x := range map[string]struct {
			call func(api.Line, int) int
			rows []row
		}{"Forward": {Forward, want.forward}, "Back": {Back, want.back}, "Next": {Next, want.next}, "Prev": {Prev, want.prev}} {
			for at, w := range x.rows {
				l := api.Line{R: []rune(text), At: at}
				if got := (row{x.call(l, 1), x.call(l, 2), x.call(l, 3), x.call(l, -1), x.call(l, -2)}); got != w {
					t.Errorf("%s of %s: %v; want %v", name, told(l), got, w)
				}
				if got := x.call(l, 0); got != at {
					t.Errorf("%s of %s by 0: %d", name, told(l), got)
				}
			}
			if len(x.rows) != len([]rune(text))+1 {
				t.Errorf("%s of %q: %d places are held", name, text, len(x.rows))
			}
		}
	}
}

// TestFarByHand: more hops than there are words, the least and the greatest int among them.
func TestFarByHand(t *testing.T) {
	for _, s := range []string{"|", "|ab", "a|b", "ab|", "ab |cd-ef gh", "|ab cd", "ab cd|", " - |- ", "  ab|  "} {
		l := of(s)
		for _, n := range []int{9, 1 << 32, 1<<32 + 1, 1 << 62, math.MaxInt - 1, math.MaxInt} {
			if a, b, c, d := Forward(l, n), Back(l, -n), Back(l, math.MinInt), Next(l, n); a != len(l.R) || b != len(l.R) || c != len(l.R) || d != len(l.R) {
				t.Errorf("%s by %d: %d, %d, %d, %d", s, n, a, b, c, d)
			}
			if a, b, c, d := Back(l, n), Forward(l, -n), Forward(l, math.MinInt), Prev(l, n); a != 0 || b != 0 || c != 0 || d != 0 {
				t.Errorf("%s by %d to the left: %d, %d, %d, %d", s, n, a, b, c, d)
			}
			if a, b, c, d := Next(l, -n), Prev(l, -n), Next(l, math.MinInt), Prev(l, math.MinInt); a != l.At || b != l.At || c != l.At || d != l.At {
				t.Errorf("%s by %d: %d, %d, %d, %d; want At", s, -n, a, b, c, d)
			}
		}
	}
}

// TestBounds: the runes beside each bound of Is, where a word ends and where one goes on.
func TestBounds(t *testing.T) {
	for r := rune(0); r < 0x110; r++ {
		l := api.Line{R: []rune{'a', r, 'b'}}
		forward, back := 1, 2
		if Is(r) {
			forward, back = 3, 0
		}
		if got := Forward(l, 1); got != forward {
			t.Errorf("Forward past %x: %d", r, got)
		}
		l.At = 3
		if got := Back(l, 1); got != back {
			t.Errorf("Back past %x: %d", r, got)
		}
		next, prev := 3, 0
		if r == ' ' {
			next, prev = 2, 2
		}
		if got := Prev(l, 1); got != prev {
			t.Errorf("Prev past %x: %d", r, got)
		}
		l.At = 0
		if got := Next(l, 1); got != next {
			t.Errorf("Next past %x: %d", r, got)
		}
	}
}

// TestEverywhere: each call, at each place of all short lines.
func TestEverywhere(t *testing.T) {
	allLines([]rune{'a', 'B', '-', ' '}, 5, func(m model) {
		for _, n := range []int{math.MinInt, -3, -2, -1, 0, 1, 2, 3, math.MaxInt} {
			wantAll(t, m, n)
		}
	})
	allLines([]rune{'z', ' '}, 9, func(m model) {
		for n := -5; n <= 5; n++ {
			wantPlaces(t, m, n)
		}
		wantSwap(t, m)
	})
}

// TestEdgeRunes: words and what is between them of the runes beside each bound.
func TestEdgeRunes(t *testing.T) {
	edges := []rune{0, ' ', '/', '0', '9', ':', '@', 'A', 'Z', '[', '`', 'a', 'z', '{', 0x7f, 0x9f, 0xa0, 0xd7ff, 0xe000, 0x10ffff}
	allLines(edges, 3, func(m model) {
		for n := -2; n <= 2; n++ {
			wantAll(t, m, n)
		}
	})
}

func TestManyTimes(t *testing.T) {
	for _, s := range []string{"", "a", "-", "ab cd ef", "  ab--cd \u6f22\u5b57 e\u0301f, 12x  ", "a b c d e f g h", "a-b-c-d-e-f-g-h", "one, two; Three (FOUR) \u00e9Five"} {
		m := modelOf(of(s))
		for at := range len(m.l.R) + 1 {
			m.l.At = at
			for _, n := range someTimes(len(m.l.R)) {
				wantAll(t, m, n)
			}
		}
	}
}

// TestMaxLine: the longest lines: one word, none, as many as there may be.
func TestMaxLine(t *testing.T) {
	for _, part := range []string{"a", " ", "-", "a ", " B", "ab-\u6f22 \u00e9Cd  "} {
		r := slices.Repeat([]rune(part), api.MaxLine)[:api.MaxLine]
		m := modelOf(api.Line{R: r})
		for _, at := range []int{0, 1, api.MaxLine / 2, api.MaxLine - 1, api.MaxLine} {
			m.l.At = at
			for _, n := range []int{math.MinInt, -api.MaxLine, -3, 0, 1, api.MaxLine/2 - 1, api.MaxLine / 2, math.MaxInt} {
				wantPlaces(t, m, n)
				wantCase(t, m, n, 0)
				wantCase(t, m, n, 2)
			}
			wantSwap(t, m)
		}
	}
}

// P12.2: Case

func TestCaseByHand(t *testing.T) {
	for _, x := range []struct {
		l                   string
		n                   int
		great, small, first string
	}{
		{"|", 1, "|", "|", "|"},
		{"|", -1, "|", "|", "|"},
		{"|aBc dEf", 1, "ABC| dEf", "abc| dEf", "Abc| dEf"},
		{"|aBc dEf", 2, "ABC DEF|", "abc def|", "Abc Def|"},
		{"|aBc dEf", 3, "ABC DEF|", "abc def|", "Abc Def|"},
		{"|aBc dEf", math.MaxInt, "ABC DEF|", "abc def|", "Abc Def|"},
		{"|aBc dEf", 0, "|aBc dEf", "|aBc dEf", "|aBc dEf"},
		{"|aBc dEf", -1, "|aBc dEf", "|aBc dEf", "|aBc dEf"},
		// In a word: it begins at At.
		{"A|bCd eF", 1, "ABCD| eF", "Abcd| eF", "ABcd| eF"},
		{"A|bCd eF", 2, "ABCD EF|", "Abcd ef|", "ABcd Ef|"},
		{"aB|cD eF", 1, "aBCD| eF", "aBcd| eF", "aBCd| eF"},
		// Behind a word: the next one.
		{"aBc| -dEf Gh", 1, "aBc -DEF| Gh", "aBc -def| Gh", "aBc -Def| Gh"},
		{"aBc| -dEf Gh", 2, "aBc -DEF GH|", "aBc -def gh|", "aBc -Def Gh|"},
		{"aBc -|dEf Gh", 1, "aBc -DEF| Gh", "aBc -def| Gh", "aBc -Def| Gh"},
		// To the left: At stays.
		{"aBc dEf|", -1, "aBc DEF|", "aBc def|", "aBc Def|"},
		{"aBc dEf|", -2, "ABC DEF|", "abc def|", "Abc Def|"},
		{"aBc dEf|", -3, "ABC DEF|", "abc def|", "Abc Def|"},
		{"aBc dEf|", math.MinInt, "ABC DEF|", "abc def|", "Abc Def|"},
		{"aBc| dEf", -1, "ABC| dEf", "abc| dEf", "Abc| dEf"},
		{"aBc |dEf", -1, "ABC |dEf", "abc |dEf", "Abc |dEf"},
		// In a word, to the left: what is ahead of At, from its first rune on.
		{"aBc dE|f", -1, "aBc DE|f", "aBc de|f", "aBc De|f"},
		{"aBc dE|F", -2, "ABC DE|F", "abc de|F", "Abc De|F"},
		{"a|B", -1, "A|B", "a|B", "A|B"},
		{"aB|c", -1, "AB|c", "ab|c", "Ab|c"},
		// No word there: At at the end, or where it was.
		{"aB|--", 1, "aB--|", "aB--|", "aB--|"},
		{"aB|", 1, "aB|", "aB|", "aB|"},
		{"--|aB", -1, "--|aB", "--|aB", "--|aB"},
		// What is no letter of both kinds stays, and a word may begin with it.
		{"|1aB\u00e9Cd _xY", 1, "1AB\u00e9CD| _xY", "1ab\u00e9cd| _xY", "1ab\u00e9cd| _xY"},
		{"|\u00e9aB \u00c9cD", 2, "\u00e9AB \u00c9CD|", "\u00e9ab \u00c9cd|", "\u00e9ab \u00c9cd|"},
		{"a|\u00e9Ab", 1, "a\u00e9AB|", "a\u00e9ab|", "a\u00e9ab|"},
		{"|\u00b5\u00ff\u0130\u0131\u017f\u01c5\u03c3\u1e9e\u212a\uff41\U00010400", 1, "\u00b5\u00ff\u0130\u0131\u017f\u01c5\u03c3\u1e9e\u212a\uff41\U00010400|", "\u00b5\u00ff\u0130\u0131\u017f\u01c5\u03c3\u1e9e\u212a\uff41\U00010400|", "\u00b5\u00ff\u0130\u0131\u017f\u01c5\u03c3\u1e9e\u212a\uff41\U00010400|"},
		{"|don't STOP", 3, "DON'T STOP|", "don't stop|", "Don'T Stop|"},
		{"|@az[`AZ{", 1, "@AZ|[`AZ{", "@az|[`AZ{", "@Az|[`AZ{"},
		{"|@az[`AZ{", 9, "@AZ[`AZ{|", "@az[`az{|", "@Az[`Az{|"},
	} {
		for how, want := range []string{x.great, x.small, x.first} {
			l := of(x.l)
			wantSaid(t, Case(l, x.n, how), want, "Case", x.l, x.n, how)
			wantSaid(t, l, x.l, "what was handed in")
		}
	}
}

// TestCaseRunes: each rune that may be near to a letter, alone, ahead of one and behind one.
func TestCaseRunes(t *testing.T) {
	for r := rune(0); r < 0x300; r++ {
		for _, text := range [][]rune{{r}, {r, 'q'}, {'Q', r}, {'-', r, 'Q', r}} {
			m := modelOf(api.Line{R: text})
			for at := range len(text) + 1 {
				m.l.At = at
				for _, n := range []int{-1, 1, 2} {
					for how := range 3 {
						wantCase(t, m, n, how)
					}
				}
			}
		}
	}
	for r := rune(0x300); r <= 0x10ffff; r += 7 {
		if l := (api.Line{R: []rune{r}}); r < 0xd800 || r > 0xdfff {
			for how := range 3 {
				if got := Case(l, 1, how); got.R[0] != r || got.At != 1 {
					t.Fatalf("Case of %x, way %d: %s", r, how, told(got))
				}
			}
		}
	}
}

// TestCaseNoWay: of other ways than the three, the line as it is.
func TestCaseNoWay(t *testing.T) {
	for _, how := range []int{math.MinInt, -1 << 32, -3, -2, -1, 3, 4, 255, 256, 257, 1 << 32, 1<<32 + 1, 1<<32 + 2, 1 << 62, math.MaxInt} {
		for _, s := range []string{"|", "|aB cD", "a|B cD", "aB| cD", "aB |cD", "aB cD|"} {
			for _, n := range []int{math.MinInt, -2, -1, 0, 1, 2, math.MaxInt} {
				wantSaid(t, Case(of(s), n, how), s, "Case", n, how)
			}
		}
	}
}

// P12.2: Swap

func TestSwapByHand(t *testing.T) {
	for _, x := range []struct {
		l, want string
		ok      bool
	}{
		// No word, one word: no two.
		{"|", "|", false},
		{" |-", " |-", false},
		{"|ab", "|ab", false},
		{"a|b", "a|b", false},
		{"ab|", "ab|", false},
		{"|  ab  ", "|  ab  ", false},
		{"  a|b  ", "  a|b  ", false},
		{"  ab  |", "  ab  |", false},
		// In the first word, and ahead of it: none is ahead of that.
		{"|ab cd", "|ab cd", false},
		{"a|b cd", "a|b cd", false},
		{"| -ab cd", "| -ab cd", false},
		{" -|ab cd", " -|ab cd", false},
		// Behind the first one, between, in the second one, behind it.
		{"ab| -cde f", "cde -ab| f", true},
		{"ab |-cde f", "cde -ab| f", true},
		{"ab -|cde f", "cde -ab| f", true},
		{"ab -c|de f", "cde -ab| f", true},
		{"ab -cd|e f", "cde -ab| f", true},
		{"ab -cde| f", "ab -f cde|", true},
		{"ab -cde |f", "ab -f cde|", true},
		{"ab -cde f|", "ab -f cde|", true},
		// Behind the last one: it, and the place goes back to its end.
		{"ab cd|", "cd ab|", true},
		{"ab cd|  ", "cd ab|  ", true},
		{"ab cd  |", "cd ab|  ", true},
		{"ab cd -|- ", "cd ab| -- ", true},
		{"x ab-- cd ..|", "x cd-- ab| ..", true},
		// What is ahead of both and behind both stays.
		{"  x, (ab; cd|) y ", "  x, (ab; y) cd| ", true},
		{"  x, (ab; c|d) y ", "  x, (cd; ab|) y ", true},
		// Of other lengths, of the same runes, of runes that aren't letters.
		{"a bcde|", "bcde a|", true},
		{"abcd e|", "e abcd|", true},
		{"ab ab|", "ab ab|", true},
		{"\u6f22e\u0301-1|2", "12-\u6f22e\u0301|", true},
		{"\u00a0\u00a1\u009f\U0010ffff|", "\U0010ffff\u009f\u00a0\u00a1|", true},
	} {
		l := of(x.l)
		got, ok := Swap(l)
		wantSaid(t, got, x.want, "Swap", x.l)
		wantSaid(t, l, x.l, "what was handed in")
		if ok != x.ok {
			t.Errorf("Swap(%s): %v", x.l, ok)
		}
	}
}

// P12.3

// TestWordIsAHop: as many hops as there are words lead through a line, each past one word and what is ahead of it, in both directions.
func TestWordIsAHop(t *testing.T) {
	for _, s := range []string{"one two three", "  one,two -- three  ", "a", "a b c d", "e\u0301 \u6f22\u5b57; 1st"} {
		l := of("|" + s)
		words := strings.FieldsFunc(s, func(r rune) bool { return !Is(r) })
		for n, word := range words {
			next := Forward(l, 1)
			if got := string(l.R[l.At:next]); strings.TrimLeft(got, " ,;-") != word {
				t.Errorf("hop %d of %q: past %q", n, s, got)
			}
			if Forward(of("|"+s), n+1) != next || Back(of("|"+s), -n-1) != next {
				t.Errorf("%d hops of %q aren't that many by one", n+1, s)
			}
			l.At = next
		}
		l.At = len(l.R)
		for n, word := range slices.Backward(words) {
			next := Back(l, 1)
			if got := string(l.R[next:l.At]); strings.TrimRight(got, " ,;-") != word {
				t.Errorf("hop back %d of %q: past %q", n, s, got)
			}
			if hops := len(words) - n; Back(of(s+"|"), hops) != next || Forward(of(s+"|"), -hops) != next {
				t.Errorf("%d hops back of %q aren't that many by one", hops, s)
			}
			l.At = next
		}
	}
}

// TestHopByHop: n hops are one and n-1, of all short lines.
func TestHopByHop(t *testing.T) {
	calls := map[string]func(api.Line, int) int{"Forward": Forward, "Back": Back, "Next": Next, "Prev": Prev}
	allLines([]rune{'a', '-', ' '}, 6, func(m model) {
		for name, call := range calls {
			l := m.l
			for n := range 5 {
				if got := call(m.l, n); got != l.At {
					t.Fatalf("%s(%s, %d): %d; one by one %d", name, told(m.l), n, got, l.At)
				}
				l.At = call(l, 1)
			}
		}
	})
}

// What holds of all calls.

// TestNoLine: of lines that line.Right refuses, every call ends.
func TestNoLine(t *testing.T) {
	long := slices.Repeat([]rune("aB \u6f22- "), api.MaxLine/3)
	lists := [][]rune{nil, {'a'}, []rune("aB cD"), {-1}, {'a', 0xd800, 'b', -1, 'c'}, {' ', 0x110000, math.MinInt32, math.MaxInt32, ' '}, long[:api.MaxLine+1], long}
	ends := []int{math.MinInt, -1 << 32, -2, -1, 0, 1, 2, 3, 6, api.MaxLine, api.MaxLine + 2, 3 * api.MaxLine, 1 << 62, math.MaxInt}
	for _, list := range lists {
		for _, at := range ends {
			l := api.Line{R: slices.Clone(list), At: at}
			if line.Right(l) {
				continue
			}
			for _, n := range []int{math.MinInt, -4, -1, 0, 1, 4, math.MaxInt} {
				Forward(l, n)
				Back(l, n)
				Next(l, n)
				Prev(l, n)
				for how := -1; how <= 3; how++ {
					Case(l, n, how)
				}
			}
			Swap(l)
			if !slices.Equal(l.R, list) || l.At != at {
				t.Fatalf("%s is changed", told(l))
			}
		}
	}
}

// calls: each call that answers a line, as it does what it does and as it answers the line as it was.
func calls() map[string]func(l api.Line) []rune {
	swap := func(l api.Line) []rune { out, _ := Swap(l); return out.R }
	return map[string]func(l api.Line) []rune{
		"Case, great":       func(l api.Line) []rune { return Case(l, 1, 0).R },
		"Case, small":       func(l api.Line) []rune { return Case(l, 2, 1).R },
		"Case, first":       func(l api.Line) []rune { return Case(l, -1, 2).R },
		"Case, no way":      func(l api.Line) []rune { return Case(l, 1, 3).R },
		"Case of no word":   func(l api.Line) []rune { return Case(l, 0, 0).R },
		"Case at the end":   func(l api.Line) []rune { return Case(api.Line{R: l.R, At: len(l.R)}, 1, 1).R },
		"Swap":              swap,
		"Swap at the end":   func(l api.Line) []rune { return swap(api.Line{R: l.R, At: len(l.R)}) },
		"Swap of one alone": func(l api.Line) []rune { return swap(api.Line{R: l.R[:2], At: 1}) },
		"Swap of none":      func(l api.Line) []rune { return swap(api.Line{R: l.R[:0]}) },
	}
}

func fill(l []rune, r rune) {
	for i := range l {
		l[i] = r
	}
}

// TestMemory: what is handed in, with the room behind it, is neither changed nor kept; what is answered is new memory.
func TestMemory(t *testing.T) {
	for name, call := range calls() {
		for at := range 9 {
			room := []rune("aB-cD Ef spare spare")
			was := slices.Clone(room)
			l := api.Line{R: room[:8], At: at}
			got := call(l)
			said := slices.Clone(got)
			if !slices.Equal(room, was) {
				t.Errorf("%s: what is handed in is changed: %q", name, string(room))
			}
			fill(room, '!')
			if !slices.Equal(got, said) {
				t.Errorf("%s: the answer is changed by what was handed in: %q; was %q", name, string(got), string(said))
			}
			copy(room, was)
			fill(got[:cap(got)], '?')
			if !slices.Equal(room, was) {
				t.Errorf("%s: the answer is what was handed in: %q", name, string(room))
			}
			if again := call(l); !slices.Equal(again, said) {
				t.Errorf("%s: it is another one now: %q; was %q", name, string(again), string(said))
			}
		}
	}
}

// TestNilIsEmpty: of no runes, be they nil or empty.
func TestNilIsEmpty(t *testing.T) {
	for _, r := range [][]rune{nil, {}, []rune("ab")[:0]} {
		for _, n := range someTimes(1) {
			wantAll(t, modelOf(api.Line{R: r}), n)
		}
	}
}

// TestRoomBehind: what stands in the room behind a line's runes is none of it.
func TestRoomBehind(t *testing.T) {
	room := []rune("ab cdXY Z")
	for n := range 6 {
		m := modelOf(api.Line{R: room[:n]})
		for at := range n + 1 {
			m.l.At = at
			for times := -3; times <= 3; times++ {
				wantAll(t, m, times)
			}
		}
	}
}

// walk: calls one behind another, as the bytes say, each held against the promises.
func walk(t *testing.T, l api.Line, b []byte) {
	t.Helper()
	for ; len(b) >= 2; b = b[2:] {
		n := int(int8(b[1]))
		if n == math.MaxInt8 {
			n = math.MaxInt
		}
		if n == math.MinInt8 {
			n = math.MinInt
		}
		m := modelOf(l)
		wantAll(t, m, n)
		switch b[0] % 8 {
		case 0:
			l.At = Forward(l, n)
		case 1:
			l.At = Back(l, n)
		case 2:
			l.At = Next(l, n)
		case 3:
			l.At = Prev(l, n)
		case 4, 5, 6:
			l = Case(l, n, int(b[0]%8)-4)
		case 7:
			l, _ = Swap(l)
		}
	}
}

func TestAnyCalls(t *testing.T) {
	r := rand.New(rand.NewSource(12))
	runes := []rune("abzABZ019  --_\t\u009f\u00a0\u00e9\u6f22\U0010ffff")
	for range 300 {
		l := api.Line{R: make([]rune, r.Intn(40))}
		for i := range l.R {
			l.R[i] = runes[r.Intn(len(runes))]
		}
		l.At = r.Intn(len(l.R) + 1)
		b := make([]byte, 40)
		for i := range b {
			b[i] = byte(r.Intn(8))
			if i%2 == 1 {
				b[i] -= 3
			}
		}
		walk(t, l, b)
	}
}

func FuzzCalls(f *testing.F) {
	f.Add("ab| cd ef", []byte{0, 1, 7, 0, 6, 255})
	f.Add("|", []byte{1, 128, 2, 127, 3, 1})
	f.Add("\u6f22-aB \u009f|\u00a0x", []byte{7, 0, 4, 2, 5, 254})
	f.Fuzz(func(t *testing.T, s string, b []byte) {
		if l := of(s); line.Right(l) && len(s) < 1000 && len(b) < 100 {
			walk(t, l, b)
		}
	})
}

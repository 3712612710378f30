package kill

import (
	"fmt"
	"math"
	"slices"
	"strings"
	"testing"

	"reprise/api"
)

// of tells the ring of a text: its kills, parted by commas; of no text no kills.
func of(s string) [][]rune {
	var out [][]rune
	for part := range strings.SplitSeq(s, ",") {
		out = append(out, []rune(part))
	}
	if s == "" {
		return nil
	}
	return out
}

// told tells a ring, all of it: each of its kills and a semicolon.
func told(ring [][]rune) string {
	s := ""
	for _, t := range ring {
		s += saidRunes(t) + ";"
	}
	return s
}

// saidRunes tells runes, all of them; those of no text in numbers.
func saidRunes(t []rune) string {
	if s := string(t); slices.Equal([]rune(s), t) {
		return s
	}
	return fmt.Sprintf("%x", t)
}

func same(a, b [][]rune) bool {
	return slices.EqualFunc(a, b, slices.Equal[[]rune])
}

// cloned answers a ring whose lists have no room behind them.
func cloned(ring [][]rune) [][]rune {
	out := make([][]rune, len(ring))
	for i, t := range ring {
		out[i] = slices.Clip(slices.Clone(t))
	}
	return out
}

// The promises, by other means.

func wantedAdd(ring [][]rune, t []rune, how int) [][]rune {
	out := cloned(ring)
	switch {
	case len(t) == 0 || how != 0 && how != 1 && how != 2:
		return out
	case how == 0 || len(ring) == 0:
		out = slices.Insert(out, 0, slices.Clone(t))
	case how == 1:
		out[0] = slices.Concat(ring[0], t)
	default:
		out[0] = slices.Concat(t, ring[0])
	}
	return out[:min(len(out), api.MaxRing)]
}

func wantedTurn(ring [][]rune) [][]rune {
	out := cloned(ring)
	for i := range len(out) - 1 {
		out[i], out[i+1] = out[i+1], out[i]
	}
	return out
}

func wantAdd(t *testing.T, ring [][]rune, text []rune, how int) {
	t.Helper()
	was, textWas := cloned(ring), slices.Clone(text)
	if got, want := Add(ring, text, how), wantedAdd(ring, text, how); !same(got, want) {
		t.Fatalf("Add(%.200s, %.200s, %d): %.200s; want %.200s", told(ring), saidRunes(text), how, told(got), told(want))
	}
	if !same(ring, was) || !slices.Equal(text, textWas) {
		t.Fatalf("Add(%.200s, %.200s, %d): what is handed in is changed: %.200s, %.200s", told(was), saidRunes(textWas), how, told(ring), saidRunes(text))
	}
}

func wantTurn(t *testing.T, ring [][]rune) {
	t.Helper()
	was := cloned(ring)
	if got, want := Turn(ring), wantedTurn(ring); !same(got, want) {
		t.Fatalf("Turn(%.200s): %.200s; want %.200s", told(ring), told(got), told(want))
	}
	if !same(ring, was) {
		t.Fatalf("Turn(%.200s): what is handed in is changed: %.200s", told(was), told(ring))
	}
}

func wantTop(t *testing.T, ring [][]rune) {
	t.Helper()
	var want []rune
	if len(ring) > 0 {
		want = ring[0]
	}
	was := cloned(ring)
	got, ok := Top(ring)
	if !slices.Equal(got, want) || ok != (len(ring) > 0) {
		t.Fatalf("Top(%.200s): %.200s, %v", told(ring), saidRunes(got), ok)
	}
	if !same(ring, was) {
		t.Fatalf("Top(%.200s): what is handed in is changed: %.200s", told(was), told(ring))
	}
}

// What the tests go through.

// otherHows: none of the three ways to add.
func otherHows() []int {
	return []int{math.MinInt, math.MinInt + 1, -1 << 32, -256, -3, -2, -1, 3, 4, 255, 256, 257, 258, 1 << 16, 1 << 32, 1<<32 + 1, 1<<32 + 2, 1 << 62, math.MaxInt - 1, math.MaxInt}
}

func someHows() []int {
	return append([]int{0, 1, 2}, otherHows()...)
}

// letters answers n runes, each another one than its neighbours.
func letters(n int) []rune {
	out := make([]rune, n)
	for i := range out {
		out[i] = 'a' + rune(i%26)
	}
	return out
}

// ringOf answers n kills, all others, of one rune and more.
func ringOf(n int) [][]rune {
	var out [][]rune
	for i := range n {
		out = append(out, []rune{'A' + rune(i), 0x6f22 + rune(i)}[:1+i%2])
	}
	return out
}

// someRings: of any number of kills up to more than MaxRing, one of them of no runes, each once, all of them, or none.
func someRings() [][][]rune {
	out := [][][]rune{nil, {}}
	for n := 1; n <= api.MaxRing+3; n++ {
		out = append(out, ringOf(n), make([][]rune, n))
		for i := range n {
			ring := ringOf(n)
			ring[i] = nil
			other := ringOf(n)
			other[i] = []rune{}
			out = append(out, ring, other)
		}
	}
	return append(out, ringOf(2*api.MaxRing), ringOf(100))
}

// someTexts: of no runes, of a few, of runes that can't be.
func someTexts() [][]rune {
	return [][]rune{nil, {}, letters(3)[:0], {'x'}, {'x', 'y'}, letters(40), {0}, {0x6f22, 0x301}, {-1}, {0xd800, 0x110000}, {math.MinInt32, 'x', math.MaxInt32}}
}

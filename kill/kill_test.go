package kill

import (
	"fmt"
	"math"
	"math/rand"
	"slices"
	"strings"
	"testing"

	"reprise/api"
)

const (
	// nine, ten and eleven kills, as MaxRing is ten.
	nine   = "0,1,2,3,4,5,6,7,8"
	ten    = "0,1,2,3,4,5,6,7,8,9"
	eleven = "0,1,2,3,4,5,6,7,8,9,A"
)

// P13.1: Add

func TestAddByHand(t *testing.T) {
	for _, x := range []struct{ ring, t, own, behind, ahead string }{
		// No first one: each as a kill of its own.
		{"", "a", "a;", "a;", "a;"},
		{"", "ab", "ab;", "ab;", "ab;"},
		// One, two, several.
		{"x", "a", "a;x;", "xa;", "ax;"},
		{"xy", "ab", "ab;xy;", "xyab;", "abxy;"},
		{"x,y", "a", "a;x;y;", "xa;y;", "ax;y;"},
		{"xy,z", "abc", "abc;xy;z;", "xyabc;z;", "abcxy;z;"},
		{"a,b,c,d", "ef", "ef;a;b;c;d;", "aef;b;c;d;", "efa;b;c;d;"},
		// What is there already is another one once more.
		{"a", "a", "a;a;", "aa;", "aa;"},
		{"a,b,a", "a", "a;a;b;a;", "aa;b;a;", "aa;b;a;"},
		// Of no runes: the ring.
		{"", "", "", "", ""},
		{"x", "", "x;", "x;", "x;"},
		{"x,y", "", "x;y;", "x;y;", "x;y;"},
		// Kills of no runes are kills, the first one as well.
		{",x", "a", "a;;x;", "a;x;", "a;x;"},
		{",", "a", "a;;;", "a;;", "a;;"},
		{"x,,y", "a", "a;x;;y;", "xa;;y;", "ax;;y;"},
		{"x,", "a", "a;x;;", "xa;;", "ax;;"},
		// What isn't a letter is as letters are.
		{"\u6f22 ", "\n\u0301", "\n\u0301;\u6f22 ;", "\u6f22 \n\u0301;", "\n\u0301\u6f22 ;"},
		// At MaxRing, ahead of it, past it.
		{nine, "ab", "ab;0;1;2;3;4;5;6;7;8;", "0ab;1;2;3;4;5;6;7;8;", "ab0;1;2;3;4;5;6;7;8;"},
		{ten, "ab", "ab;0;1;2;3;4;5;6;7;8;", "0ab;1;2;3;4;5;6;7;8;9;", "ab0;1;2;3;4;5;6;7;8;9;"},
		{eleven, "ab", "ab;0;1;2;3;4;5;6;7;8;", "0ab;1;2;3;4;5;6;7;8;9;", "ab0;1;2;3;4;5;6;7;8;9;"},
		{eleven + ",B,C,D,E,F,G,H,I,J,K", "ab", "ab;0;1;2;3;4;5;6;7;8;", "0ab;1;2;3;4;5;6;7;8;9;", "ab0;1;2;3;4;5;6;7;8;9;"},
		// Of no runes even such a ring is as it is.
		{ten, "", "0;1;2;3;4;5;6;7;8;9;", "0;1;2;3;4;5;6;7;8;9;", "0;1;2;3;4;5;6;7;8;9;"},
		{eleven, "", "0;1;2;3;4;5;6;7;8;9;A;", "0;1;2;3;4;5;6;7;8;9;A;", "0;1;2;3;4;5;6;7;8;9;A;"},
	} {
		for how, want := range []string{x.own, x.behind, x.ahead} {
			if got := told(Add(of(x.ring), []rune(x.t), how)); got != want {
				t.Errorf("Add(%q, %q, %d): %s; want %s", x.ring, x.t, how, got, want)
			}
		}
	}
	if got := told(Add(of("a"), []rune("b"), 1)); got != "ab;" {
		t.Errorf("the chapter's example: %s", got)
	}
}

// TestAddNoHow: of other hows than the three, the ring as it is, however long it is.
func TestAddNoHow(t *testing.T) {
	for _, how := range otherHows() {
		for _, x := range []struct{ ring, want string }{
			{"", ""},
			{"x", "x;"},
			{"x,,y", "x;;y;"},
			{nine, "0;1;2;3;4;5;6;7;8;"},
			{ten, "0;1;2;3;4;5;6;7;8;9;"},
			{eleven, "0;1;2;3;4;5;6;7;8;9;A;"},
		} {
			for _, text := range someTexts() {
				if got := told(Add(of(x.ring), text, how)); got != x.want {
					t.Errorf("Add(%q, %s, %d): %s", x.ring, saidRunes(text), how, got)
				}
			}
		}
	}
}

func TestAddEverywhere(t *testing.T) {
	for _, ring := range someRings() {
		for _, text := range someTexts() {
			for _, how := range someHows() {
				wantAdd(t, ring, text, how)
			}
		}
	}
}

// TestAddLong: neither a kill nor what is added has an end of its own.
func TestAddLong(t *testing.T) {
	for _, n := range []int{api.MaxLine - 1, api.MaxLine, api.MaxLine + 1, 3 * api.MaxLine} {
		for _, ring := range [][][]rune{nil, {letters(n)}, {letters(2), letters(n)}, slices.Repeat([][]rune{letters(n)}, api.MaxRing+1)} {
			for _, text := range [][]rune{nil, {'x'}, letters(n)} {
				for how := -1; how <= 3; how++ {
					wantAdd(t, ring, text, how)
				}
			}
			wantTurn(t, ring)
			wantTop(t, ring)
		}
	}
}

// TestMaxRing: a ring that is only added to has at most MaxRing kills, the last ones.
func TestMaxRing(t *testing.T) {
	var ring [][]rune
	for n := range 3 * api.MaxRing {
		ring = Add(ring, []rune{'A' + rune(n)}, 0)
		if len(ring) != min(n+1, api.MaxRing) {
			t.Fatalf("%d kills of %d", len(ring), n+1)
		}
		for i, kill := range ring {
			if want := 'A' + rune(n-i); len(kill) != 1 || kill[0] != want {
				t.Fatalf("%d added: kill %d is %s; want %s", n+1, i, saidRunes(kill), string(want))
			}
		}
	}
}

// P13.1: Turn

func TestTurnByHand(t *testing.T) {
	for _, x := range []struct{ ring, once, twice, thrice string }{
		{"", "", "", ""},
		{"a", "a;", "a;", "a;"},
		{"ab,c", "c;ab;", "ab;c;", "c;ab;"},
		{"a,b,c", "b;c;a;", "c;a;b;", "a;b;c;"},
		{"a,b,c,d", "b;c;d;a;", "c;d;a;b;", "d;a;b;c;"},
		{",a", "a;;", ";a;", "a;;"},
		{",,a", ";a;;", "a;;;", ";;a;"},
		{"a,a,b", "a;b;a;", "b;a;a;", "a;a;b;"},
		{ten, "1;2;3;4;5;6;7;8;9;0;", "2;3;4;5;6;7;8;9;0;1;", "3;4;5;6;7;8;9;0;1;2;"},
		// None goes, even if there are more than Add leaves.
		{eleven, "1;2;3;4;5;6;7;8;9;A;0;", "2;3;4;5;6;7;8;9;A;0;1;", "3;4;5;6;7;8;9;A;0;1;2;"},
	} {
		ring := of(x.ring)
		for n, want := range []string{x.once, x.twice, x.thrice} {
			ring = Turn(ring)
			if got := told(ring); got != want {
				t.Errorf("%q, turned %d times: %s; want %s", x.ring, n+1, got, want)
			}
		}
	}
}

func TestTurnEverywhere(t *testing.T) {
	for _, ring := range someRings() {
		wantTurn(t, ring)
	}
}

// TestTurnAround: as many turns as there are kills lead back, fewer don't; each kill is the first one once, in order.
func TestTurnAround(t *testing.T) {
	for n := range api.MaxRing + 4 {
		ring := ringOf(n)
		now := ring
		for i := range n {
			if i > 0 && same(now, ring) {
				t.Errorf("%d turns of %d kills lead back", i, n)
			}
			if top, ok := Top(now); !slices.Equal(top, ring[i]) || !ok {
				t.Errorf("behind %d turns of %d kills: %s, %v", i, n, saidRunes(top), ok)
			}
			now = Turn(now)
		}
		if !same(now, ring) {
			t.Errorf("%d turns of %d kills: %s", n, n, told(now))
		}
	}
}

// P13.1: Top

func TestTopByHand(t *testing.T) {
	for _, x := range []struct {
		ring, want string
		ok         bool
	}{
		{"", "", false},
		{"a", "a", true},
		{"ab,c", "ab", true},
		{"c,ab", "c", true},
		// A kill of no runes is one.
		{",", "", true},
		{",a", "", true},
		{"a,", "a", true},
		{"\u6f22\u0301\n,a", "\u6f22\u0301\n", true},
		{ten, "0", true},
		{eleven, "0", true},
	} {
		got, ok := Top(of(x.ring))
		if string(got) != x.want || ok != x.ok {
			t.Errorf("Top(%q): %q, %v", x.ring, string(got), ok)
		}
	}
	for _, first := range [][]rune{nil, {}} {
		if got, ok := Top([][]rune{first}); len(got) != 0 || !ok {
			t.Errorf("Top of a kill of no runes: %q, %v", string(got), ok)
		}
	}
}

func TestTopEverywhere(t *testing.T) {
	for _, ring := range someRings() {
		wantTop(t, ring)
	}
}

// P13.2

// TestCutIsKept: whatever is cut, as kills of their own, comes back by turns, the last one first, up to MaxRing of them.
func TestCutIsKept(t *testing.T) {
	var ring [][]rune
	cuts := of("echo,rm -rf,a b c,\u6f22\u5b57,!,x\ny,  ,0,-,cd,ls,man")
	for n, cut := range cuts {
		ring = Add(ring, cut, 0)
		now := ring
		for i := range min(n+1, api.MaxRing) {
			if top, ok := Top(now); !slices.Equal(top, cuts[n-i]) || !ok {
				t.Errorf("%d cut, %d turns: %q, %v; want %q", n+1, i, string(top), ok, string(cuts[n-i]))
			}
			now = Turn(now)
		}
	}
}

// TestPiecesAreKept: a text that is cut out piece by piece, from its beginning or from its end, is one kill again, behind which the others are as they were.
func TestPiecesAreKept(t *testing.T) {
	text := []rune("echo \u6f22\u5b57 | rm -rf e\u0301")
	for size := 1; size <= len(text); size++ {
		for middle := range len(text) {
			ring := of("one,two")
			how := 0
			for from := middle; from < len(text); from += size {
				ring = Add(ring, text[from:min(from+size, len(text))], how)
				how = 1
			}
			for to := middle; to > 0; to -= size {
				ring = Add(ring, text[max(to-size, 0):to], 2)
			}
			if got, want := told(ring), string(text)+";one;two;"; got != want {
				t.Fatalf("by %d from %d on: %s; want %s", size, middle, got, want)
			}
		}
	}
}

// TestKeptInFullRing: what is cut beside the kill ahead of it costs none of those behind it.
func TestKeptInFullRing(t *testing.T) {
	ring := of(ten)
	want := "0"
	for n := range 40 {
		if n%2 == 0 {
			ring, want = Add(ring, []rune("x"), 1), want+"x"
		} else {
			ring, want = Add(ring, []rune("yz"), 2), "yz"+want
		}
	}
	if got := told(ring); got != want+";1;2;3;4;5;6;7;8;9;" {
		t.Errorf("%s; want %s ahead of nine", got, want)
	}
}

// What holds of all calls.

// call of a ring and a text, and the lists that it answers.
type call func(ring [][]rune, text []rune) [][]rune

// calls: each call, by each way in which it answers.
func calls() map[string]call {
	return map[string]call{
		"Add of its own":          func(ring [][]rune, text []rune) [][]rune { return Add(ring, text, 0) },
		"Add behind":              func(ring [][]rune, text []rune) [][]rune { return Add(ring, text, 1) },
		"Add ahead":               func(ring [][]rune, text []rune) [][]rune { return Add(ring, text, 2) },
		"Add of no how":           func(ring [][]rune, text []rune) [][]rune { return Add(ring, text, 3) },
		"Add of how below 0":      func(ring [][]rune, text []rune) [][]rune { return Add(ring, text, math.MinInt) },
		"Add of nothing":          func(ring [][]rune, text []rune) [][]rune { return Add(ring, text[:0], 0) },
		"Add of nothing behind":   func(ring [][]rune, text []rune) [][]rune { return Add(ring, nil, 1) },
		"Add to none":             func(ring [][]rune, text []rune) [][]rune { return Add(ring[:0], text, 0) },
		"Add behind none":         func(ring [][]rune, text []rune) [][]rune { return Add(ring[:0], text, 1) },
		"Add ahead of none":       func(ring [][]rune, text []rune) [][]rune { return Add(ring[:0], text, 2) },
		"Add of the first":        func(ring [][]rune, text []rune) [][]rune { return Add(ring, firstOf(ring, text), 0) },
		"Add of the first behind": func(ring [][]rune, text []rune) [][]rune { return Add(ring, firstOf(ring, text), 1) },
		"Add of the first ahead":  func(ring [][]rune, text []rune) [][]rune { return Add(ring, firstOf(ring, text), 2) },
		"Turn":                    func(ring [][]rune, text []rune) [][]rune { return Turn(ring) },
		"Turn of none":            func(ring [][]rune, text []rune) [][]rune { return Turn(ring[:0]) },
		"Top": func(ring [][]rune, text []rune) [][]rune {
			top, _ := Top(ring)
			return [][]rune{top}
		},
	}
}

func firstOf(ring [][]rune, text []rune) []rune {
	if len(ring) == 0 {
		return text
	}
	return ring[0]
}

// handedIn: a ring and a text, and all memory that they have, with the room behind them.
type handedIn struct {
	ring  [][]rune
	text  []rune
	rooms [][]rune // of the ring's kills, of those in the room behind it, of the text
	lists [][]rune // the ring, with that room
}

// hand makes n kills; all have room behind them, in one piece of memory of their own each, or all in the same one.
func hand(n int, one bool) handedIn {
	h := handedIn{}
	all := []rune(strings.Repeat("abcdefghij", n+5))
	for i := range n + 5 {
		room := all
		if !one {
			room = []rune("klmnopqrst")
			room[0] += rune(i)
		}
		h.rooms = append(h.rooms, room)
		h.lists = append(h.lists, room[:3])
	}
	h.text = h.rooms[n+4][:2]
	h.ring = h.lists[:n]
	return h
}

// state tells all that was handed in, with the room behind it.
func (h handedIn) state() string {
	return told(h.rooms) + "/" + told(h.lists) + "/" + saidRunes(h.text)
}

// spoil writes over all that was handed in.
func (h handedIn) spoil() {
	for _, room := range h.rooms {
		fill(room, '!')
	}
	fill(h.lists, []rune("spoilt"))
}

func fill[T any](l []T, x T) {
	for i := range l {
		l[i] = x
	}
}

// eachCall calls f with each call and each shape of what it may be handed.
func eachCall(f func(name string, do call, handed func() handedIn)) {
	for name, do := range calls() {
		for _, n := range []int{0, 1, 2, 3, api.MaxRing - 1, api.MaxRing, api.MaxRing + 1, api.MaxRing + 3} {
			for _, one := range []bool{false, true} {
				f(fmt.Sprint(name, ", ", n, " kills"), do, func() handedIn { return hand(n, one) })
			}
		}
	}
}

// TestHandedIn: what is handed in, with the room behind it, is neither changed nor kept.
func TestHandedIn(t *testing.T) {
	eachCall(func(name string, do call, handed func() handedIn) {
		h := handed()
		was := h.state()
		got := do(h.ring, h.text)
		said := told(got)
		if h.state() != was {
			t.Errorf("%s: what is handed in is changed: %s; was %s", name, h.state(), was)
		}
		h.spoil()
		if told(got) != said {
			t.Errorf("%s: the answer is changed by what was handed in: %s; was %s", name, told(got), said)
		}
		h = handed()
		if again := do(h.ring, h.text); told(again) != said {
			t.Errorf("%s: it is another one now: %s; was %s", name, told(again), said)
		}
	})
}

// TestNewMemory: what is written into an answer, and into the room behind it, changes nothing else.
func TestNewMemory(t *testing.T) {
	eachCall(func(name string, do call, handed func() handedIn) {
		h := handed()
		was := h.state()
		got := do(h.ring, h.text)
		said := told(got)
		lists := slices.Clone(got)
		for i, list := range lists {
			fill(list[:cap(list)], rune('0'+i))
		}
		fill(got[:cap(got)], []rune("mine"))
		if h.state() != was {
			t.Errorf("%s: an answer is what was handed in: %s; was %s", name, h.state(), was)
		}
		for i, list := range lists {
			if slices.ContainsFunc(list[:cap(list)], func(r rune) bool { return r != rune('0'+i) }) {
				t.Errorf("%s: list %d shares memory with another one", name, i)
			}
		}
		if again := do(h.ring, h.text); told(again) != said {
			t.Errorf("%s: it is another one now: %s; was %s", name, told(again), said)
		}
	})
}

// TestNilIsEmpty: of no kills and of no runes, be they nil or empty.
func TestNilIsEmpty(t *testing.T) {
	for _, ring := range [][][]rune{nil, {}, ringOf(3)[:0]} {
		for _, text := range someTexts() {
			for _, how := range someHows() {
				wantAdd(t, ring, text, how)
			}
		}
		wantTurn(t, ring)
		wantTop(t, ring)
	}
	for _, none := range [][]rune{nil, {}, letters(3)[:0]} {
		for _, ring := range [][][]rune{{none}, {none, none}, {none, letters(1)}, {letters(1), none}} {
			for _, text := range [][]rune{none, {'x'}} {
				for how := -1; how <= 3; how++ {
					wantAdd(t, ring, text, how)
				}
			}
			wantTurn(t, ring)
			wantTop(t, ring)
		}
	}
}

// TestRoomBehind: what stands in the room behind a ring and behind its kills is none of it.
func TestRoomBehind(t *testing.T) {
	for n := range 4 {
		for _, one := range []bool{false, true} {
			h := hand(n, one)
			for how := range 3 {
				wantAdd(t, h.ring, h.text, how)
				wantAdd(t, h.ring, h.text[:0], how)
			}
			wantTurn(t, h.ring)
			wantTop(t, h.ring)
		}
	}
}

// walk: calls one behind another, as the bytes say, each held against the promises; what was answered on the way stays as it was.
func walk(t *testing.T, ring [][]rune, b []byte) {
	t.Helper()
	var rings [][][]rune
	var said []string
	for ; len(b) >= 2; b = b[2:] {
		rings, said = append(rings, ring), append(said, told(ring))
		how := int(b[0] % 5)
		text := letters(int(b[1] % 8))
		if top, ok := Top(ring); ok && b[1] >= 240 {
			text = top
		}
		wantTop(t, ring)
		wantTurn(t, ring)
		wantAdd(t, ring, text, how)
		switch how {
		case 3:
			ring = Turn(ring)
		case 4:
			ring = Add(ring, text, int(int8(b[1]))*2-1)
		default:
			ring = Add(ring, text, how)
		}
		if len(ring) > 0 && len(ring[0]) > 1000 {
			ring = ring[1:]
		}
	}
	for i, r := range rings {
		if told(r) != said[i] {
			t.Fatalf("the ring behind %d calls is %s; was %s", i, told(r), said[i])
		}
	}
}

func TestAnyCalls(t *testing.T) {
	r := rand.New(rand.NewSource(13))
	for range 300 {
		b := make([]byte, 2*r.Intn(80))
		r.Read(b)
		walk(t, ringOf(r.Intn(api.MaxRing+4)), b)
	}
}

func FuzzCalls(f *testing.F) {
	f.Add("a,b,c", []byte{0, 1, 1, 2, 2, 3, 3, 0})
	f.Add("", []byte{1, 1, 4, 0, 3, 0, 2, 240, 0, 0})
	f.Add(",,\u6f22,"+eleven, []byte{0, 240, 4, 1, 3, 3, 0, 1})
	f.Fuzz(func(t *testing.T, s string, b []byte) {
		if len(s) < 1000 && len(b) < 200 {
			walk(t, of(s), b)
		}
	})
}

package undo

import (
	"fmt"
	"math/rand"
	"runtime"
	"slices"
	"strings"
	"testing"

	"reprise/api"
	"reprise/line"
)

// P14.1: stories by hand

func TestByHand(t *testing.T) {
	for _, x := range []struct{ story, want string }{
		// Nothing, and none.
		{"", ""},
		{"<", "-:0"},
		{"<<", "-:0 -:0"},
		{"|", "0"},
		{"||<", "0 0 -:0"},
		// Saves that aren't typed: each is kept.
		{"o<<", "1 0:0 -:0"},
		{"oo<<<", "1 2 1:1 0:0 -:0"},
		{"ooo<o<<<", "1 2 3 2:2 3 3:2 1:1 0:0"},
		// Typed ones: the first of them.
		{"t<<", "1 0:0 -:0"},
		{"tt<<", "1 1 0:0 -:0"},
		{"tttt<<", "1 1 1 1 0:0 -:0"},
		// One that isn't typed is kept, and so is the typed one behind it.
		{"to<<<", "1 2 1:1 0:0 -:0"},
		{"ot<<<", "1 2 1:1 0:0 -:0"},
		{"ott<<<", "1 2 2 1:1 0:0 -:0"},
		{"tott<<<<", "1 2 3 3 2:2 1:1 0:0 -:0"},
		{"ttoott<<<<<", "1 1 2 3 4 4 4:3 3:2 2:1 0:0 -:0"},
		// A Break ends what is typed, however many there are.
		{"t|t<<<", "1 1 2 1:1 0:0 -:0"},
		{"tt|tt<<<", "1 1 1 2 2 2:1 0:0 -:0"},
		{"tt||tt<<<", "1 1 1 1 2 2 2:1 0:0 -:0"},
		{"t|t|t|t<<<<<", "1 1 2 2 3 3 4 3:3 2:2 1:1 0:0 -:0"},
		{"|tt<<", "0 1 1 0:0 -:0"},
		{"o|o<<<", "1 1 2 1:1 0:0 -:0"},
		{"t|o|t<<<<", "1 1 2 2 3 2:2 1:1 0:0 -:0"},
		// So does a Back, be there something or not.
		{"t<t<<", "1 0:0 1 1:0 -:0"},
		{"tt<tt<<", "1 1 0:0 1 1 2:0 -:0"},
		{"ott<t<<<", "1 2 2 1:1 2 3:1 0:0 -:0"},
		{"ott<<t<<", "1 2 2 1:1 0:0 1 3:0 -:0"},
		{"t<<tt<<", "1 0:0 -:0 1 1 1:0 -:0"},
		{"<t<t<t<<", "-:0 1 0:0 1 1:0 1 2:0 -:0"},
		// Both.
		{"tt|<t|t<<<", "1 1 1 0:0 1 1 2 3:1 2:0 -:0"},
		{"ot<|tt<<<", "1 2 1:1 1 2 2 2:1 0:0 -:0"},
	} {
		if got := told(x.story); got != x.want {
			t.Errorf("%s: %s; want %s", x.story, got, x.want)
		}
	}
}

// TestExample: the chapter's, "20 typed Saves: one; the 21st: two".
func TestExample(t *testing.T) {
	s := New()
	for n := range 20 {
		if s.Save(lineOf(n), true); s.Len() != 1 {
			t.Errorf("%d typed ones: %d", n+1, s.Len())
		}
	}
	if s.Save(lineOf(20), true); s.Len() != 2 {
		t.Errorf("the 21st: %d", s.Len())
	}
	if got := backs(s); got != "20 0 -" {
		t.Errorf("back come %s", got)
	}
}

// P14.1: groups

// TestGroupsByHand: MaxGroup typed Saves, one less and one more, twice over and further on.
func TestGroupsByHand(t *testing.T) {
	for _, x := range []struct {
		n    int
		want string
	}{
		{1, "0 -"}, {2, "0 -"}, {18, "0 -"}, {19, "0 -"}, {20, "0 -"},
		{21, "20 0 -"}, {22, "20 0 -"}, {39, "20 0 -"}, {40, "20 0 -"},
		{41, "40 20 0 -"}, {59, "40 20 0 -"}, {60, "40 20 0 -"},
		{61, "60 40 20 0 -"}, {101, "100 80 60 40 20 0 -"},
	} {
		s := New()
		toldOn(s, strings.Repeat("t", x.n))
		if got := backs(s); got != x.want {
			t.Errorf("%d typed ones: back come %s; want %s", x.n, got, x.want)
		}
	}
}

// TestGroupsParted: of any number of typed Saves on both sides of what parts them, each side by itself.
func TestGroupsParted(t *testing.T) {
	// A group of n typed Saves, which is kept as so many lines.
	groups := func(n int) int { return (n + api.MaxGroup - 1) / api.MaxGroup }
	for _, x := range []struct {
		parts string
		more  int // lines that what parts them adds
	}{
		{"|", 0}, {"||", 0}, {"o", 1}, {"oo", 2}, {"o|", 1}, {"|o", 1}, {"<", -1}, {"o<", 0}, {"|<", -1}, {"<|", -1}, {"<o", 0},
	} {
		for before := 1; before <= 2*api.MaxGroup+2; before++ {
			for behind := 1; behind <= 2*api.MaxGroup+2; behind++ {
				s := New()
				toldOn(s, strings.Repeat("t", before)+x.parts+strings.Repeat("t", behind))
				if want := groups(before) + x.more + groups(behind); s.Len() != want {
					t.Fatalf("%d typed ones, %s, %d typed ones: %d; want %d", before, x.parts, behind, s.Len(), want)
				}
			}
		}
	}
}

// TestLenParts: however often it is asked how many there are, what is typed goes on.
func TestLenParts(t *testing.T) {
	s := New()
	for n := range api.MaxGroup {
		s.Save(lineOf(n), true)
		if s.Len() != 1 || s.Len() != 1 {
			t.Errorf("%d typed ones: %d", n+1, s.Len())
		}
	}
	unasked := New()
	for n := range api.MaxGroup {
		unasked.Save(lineOf(n), true)
	}
	if unasked.Len() != 1 {
		t.Errorf("asked at last alone: %d", unasked.Len())
	}
}

// P14.1: at most MaxUndo

// TestMaxUndo: of more Saves than may be kept the newest ones are, whatever they are.
func TestMaxUndo(t *testing.T) {
	for _, kind := range []string{"o", "t|", strings.Repeat("t", api.MaxGroup), "o|"} {
		for _, n := range []int{0, 1, 2, api.MaxUndo - 1, api.MaxUndo, api.MaxUndo + 1, api.MaxUndo + 50, 2 * api.MaxUndo, 2*api.MaxUndo + 1, 10 * api.MaxUndo} {
			s := New()
			toldOn(s, strings.Repeat(kind, n))
			each := strings.Count(kind, "t") + strings.Count(kind, "o")
			want := []string{}
			for i := n - 1; i >= max(n-api.MaxUndo, 0); i-- {
				want = append(want, fmt.Sprint(i*each))
			}
			if s.Len() != len(want) {
				t.Errorf("%d times %s: %d", n, kind, s.Len())
			}
			if got := backs(s); got != strings.Join(append(want, "-"), " ") {
				t.Errorf("%d times %s: back come %s", n, kind, got)
			}
			if got := toldOn(s, "ttot<<<<"); got != "1 1 2 3 3:2 2:1 0:0 -:0" {
				t.Errorf("%d times %s, and behind all Backs: %s", n, kind, got)
			}
		}
	}
}

// TestFullAndBack: a full stack that goes back some steps has room for just these.
func TestFullAndBack(t *testing.T) {
	for _, back := range []int{1, 2, 50, api.MaxUndo - 1, api.MaxUndo, api.MaxUndo + 1} {
		for _, more := range []int{0, 1, back - 1, back, back + 1, api.MaxUndo, api.MaxUndo + 1} {
			for _, full := range []int{api.MaxUndo - 1, api.MaxUndo, api.MaxUndo + 1, 3 * api.MaxUndo} {
				p := newPair(t)
				p.play(strings.Repeat("o", full)+strings.Repeat("<", back)+strings.Repeat("o", more), 0)
				if want := min(max(min(full, api.MaxUndo)-back, 0)+more, api.MaxUndo); p.s.Len() != want {
					t.Fatalf("%d Saves, %d Backs, %d Saves: %d; want %d", full, back, more, p.s.Len(), want)
				}
				p.backs()
			}
		}
	}
}

// TestFullAndTyped: what is typed goes on while the oldest ones go.
func TestFullAndTyped(t *testing.T) {
	for full := api.MaxUndo - 3; full <= api.MaxUndo+3; full++ {
		for _, typed := range []int{1, api.MaxGroup - 1, api.MaxGroup, api.MaxGroup + 1, 2 * api.MaxGroup, 2*api.MaxGroup + 1, api.MaxUndo * api.MaxGroup, api.MaxUndo*api.MaxGroup + 1} {
			p := newPair(t)
			p.play(strings.Repeat("o", full)+strings.Repeat("t", typed), 0)
			p.backs()
		}
	}
}

// P14.1: any story

func TestEverywhere(t *testing.T) {
	stories(7, func(story string) {
		p := newPair(t)
		p.play(story, 0)
		p.backs()
	})
}

// TestEverywhereBehind: each short story behind those that lead to an edge.
func TestEverywhereBehind(t *testing.T) {
	ahead := []string{}
	for _, n := range []int{api.MaxGroup - 3, api.MaxGroup - 2, api.MaxGroup - 1, api.MaxGroup, api.MaxGroup + 1, 2*api.MaxGroup - 1, 2 * api.MaxGroup} {
		ahead = append(ahead, strings.Repeat("t", n), "o"+strings.Repeat("t", n), "t|"+strings.Repeat("t", n), "tt<"+strings.Repeat("t", n))
	}
	for _, n := range []int{api.MaxUndo - 2, api.MaxUndo - 1, api.MaxUndo} {
		ahead = append(ahead, strings.Repeat("o", n), strings.Repeat("|t", n), strings.Repeat("t", n*api.MaxGroup))
	}
	for _, first := range ahead {
		stories(3, func(story string) {
			p := newPair(t)
			p.play(first+story, 0)
			p.backs()
		})
	}
}

// P14.1: any line

// TestLines: of each line, be it one that can be or not, what comes back is what was there.
func TestLines(t *testing.T) {
	for _, l := range someLines() {
		for _, typed := range []bool{false, true} {
			s := New()
			s.Save(l, typed)
			if s.Len() != 1 {
				t.Errorf("Save(%s, %v): %d", said(l), typed, s.Len())
			}
			got, ok := s.Back()
			if !same(got, l) || !ok || s.Len() != 0 {
				t.Errorf("Save(%s, %v): back comes %s, %v", said(l), typed, said(got), ok)
			}
			if got, ok = s.Back(); !same(got, api.Line{}) || ok {
				t.Errorf("Save(%s, %v): at last comes %s, %v", said(l), typed, said(got), ok)
			}
		}
	}
}

// TestLinesAfterLines: which line it is has no say in what is kept anew.
func TestLinesAfterLines(t *testing.T) {
	lines := someLines()
	for i, l := range lines {
		for _, other := range lines[i:] {
			for _, story := range []string{"tt", "oo", "to", "ot"} {
				p := newPair(t)
				p.save(l, story[0] == 't')
				p.save(other, story[1] == 't')
				p.save(l, true)
				p.backs()
			}
		}
	}
}

// TestSameLine: a line that is there already is kept once more.
func TestSameLine(t *testing.T) {
	s := New()
	for n := range api.MaxUndo {
		if s.Save(lineOf(7), false); s.Len() != n+1 {
			t.Errorf("the same line for the %dth time: %d", n+1, s.Len())
		}
	}
	if got, want := backs(s), strings.Repeat("7 ", api.MaxUndo)+"-"; got != want {
		t.Errorf("back come %s", got)
	}
}

// P14.2

// typeIn answers the line with what is typed into it, rune by rune; the stack is told of each.
func typeIn(s *Stack, l api.Line, text string) api.Line {
	for _, r := range text {
		s.Save(l, true)
		l, _ = line.Insert(l, []rune{r})
	}
	return l
}

// TestTypedAtOnce: what is typed at once goes at once, up to MaxGroup runes of it.
func TestTypedAtOnce(t *testing.T) {
	text := "echo one two three four five six seven eight nine ten"
	for n := 1; n <= len(text); n++ {
		s := New()
		l := typeIn(s, api.Line{}, text[:n])
		for line.Text(l) != "" {
			was := len(l.R)
			l, _ = s.Back()
			// What goes is the last group, whole; the others are whole as well.
			if want := (was - 1) / api.MaxGroup * api.MaxGroup; line.Text(l) != text[:want] || l.At != want {
				t.Fatalf("of %q: back comes %q at %d; want %q", text[:was], line.Text(l), l.At, text[:want])
			}
		}
		if l, ok := s.Back(); ok {
			t.Fatalf("%q: at last comes %q", text[:n], line.Text(l))
		}
	}
}

// TestTypedByTurns: words that are typed, with something else between them, go one by one.
func TestTypedByTurns(t *testing.T) {
	s := New()
	l := typeIn(s, api.Line{}, "make")
	s.Break()
	l = typeIn(s, l, " -k")
	s.Save(l, false)
	l, _ = line.Delete(l, 0, 4)
	l = typeIn(s, line.To(l, 0), "gmake")
	want := []string{"gmake -k", " -k", "make -k", "make", ""}
	for i, text := range want {
		if line.Text(l) != text {
			t.Errorf("behind %d Backs: %q; want %q", i, line.Text(l), text)
		}
		was, ok := s.Back()
		if ok != (i+1 < len(want)) {
			t.Errorf("behind %d Backs: %v", i, ok)
		}
		l = was
	}
}

// What holds of all calls.

// TestHandedIn: a line that is handed in, with the room behind it, is neither changed nor kept.
func TestHandedIn(t *testing.T) {
	for n := range 6 {
		for _, typed := range []bool{false, true} {
			for _, behind := range []string{"", "t", "o", "|", "tttt", strings.Repeat("o", api.MaxUndo-1)} {
				s := New()
				room := []rune("abcdefghij")
				l := api.Line{R: room[:n], At: n / 2}
				s.Save(l, typed)
				toldOn(s, behind)
				if string(room) != "abcdefghij" {
					t.Fatalf("%d runes, then %q: what is handed in is changed: %q", n, behind, string(room))
				}
				fill(room, '!')
				for s.Len() > 1 {
					s.Back()
				}
				if got, ok := s.Back(); string(got.R) != "abcdefghij"[:n] || got.At != n/2 || !ok {
					t.Fatalf("%d runes, then %q: back comes %s, %v", n, behind, said(got), ok)
				}
				if string(room) != "!!!!!!!!!!" {
					t.Fatalf("%d runes, then %q: what was handed in is changed: %q", n, behind, string(room))
				}
			}
		}
	}
}

func fill(l []rune, r rune) {
	for i := range l {
		l[i] = r
	}
}

// TestOneMemory: lines that are handed in as parts of one memory, or as the same one, come back as they were.
func TestOneMemory(t *testing.T) {
	s := New()
	room := []rune("abcdefghij")
	want := []string{}
	for from := range room {
		for to := from; to <= len(room); to++ {
			s.Save(api.Line{R: room[from:to], At: to - from}, false)
			want = append(want, string(room[from:to]))
		}
		slices.Reverse(room)
	}
	for i := len(want) - 1; s.Len() > 0; i-- {
		if got, _ := s.Back(); string(got.R) != want[i] || got.At != len([]rune(want[i])) {
			t.Fatalf("line %d: %s; want %q", i, said(got), want[i])
		}
	}
}

// TestNewMemory: what is written into a line that was answered, and into the room behind it, changes nothing else.
func TestNewMemory(t *testing.T) {
	for _, size := range []int{0, 1, 2, 3, 5, 8, 100, 1000} {
		room := letters(size + 10)
		s := New()
		for range api.MaxUndo + 5 {
			s.Save(api.Line{R: room[:size], At: size}, false)
		}
		got := []api.Line{}
		for s.Len() > 0 {
			l, _ := s.Back()
			if !slices.Equal(l.R, letters(size)) || l.At != size {
				t.Fatalf("%d runes, line %d: %s", size, len(got), said(l))
			}
			fill(l.R[:cap(l.R)], rune(len(got)))
			got = append(got, l)
			// Others are saved where it was, and go again.
			s.Save(api.Line{R: room, At: 1}, false)
			s.Save(api.Line{R: room, At: 2}, true)
			s.Back()
			s.Back()
		}
		for i, l := range got {
			if slices.ContainsFunc(l.R[:cap(l.R)], func(r rune) bool { return r != rune(i) }) {
				t.Fatalf("%d runes: line %d shares memory with another one", size, i)
			}
		}
		if !slices.Equal(room, letters(size+10)) {
			t.Fatalf("%d runes: an answer is what was handed in", size)
		}
	}
}

// TestTwoStacks: two stacks that are told by turns, of the same lines, share nothing.
func TestTwoStacks(t *testing.T) {
	r := rand.New(rand.NewSource(2))
	for range 50 {
		p, q := newPair(t), newPair(t)
		shared := api.Line{R: letters(30)[:5], At: 3}
		for n := range 300 {
			at := p
			if r.Intn(2) == 1 {
				at = q
			}
			switch r.Intn(8) {
			case 0:
				p.save(shared, false)
				q.save(shared, false)
			case 1:
				l, _ := at.back()
				fill(l.R[:cap(l.R)], '!')
			case 2:
				at.breaks()
			default:
				at.save(lineOf(n), r.Intn(4) > 0)
			}
		}
		p.backs()
		q.backs()
	}
}

// TestNilIsEmpty: of lines of no runes, be they nil or empty.
func TestNilIsEmpty(t *testing.T) {
	for _, none := range [][]rune{nil, {}, letters(4)[:0]} {
		for _, story := range []string{"t", "o", "tt", "oo", "t|t"} {
			p := newPair(t)
			for i, call := range story {
				if call == '|' {
					p.breaks()
				} else {
					p.save(api.Line{R: none, At: i}, call == 't')
				}
			}
			p.backs()
		}
	}
}

// TestNotHeld: what is gone, by a Back or as the oldest one, takes no memory any more.
func TestNotHeld(t *testing.T) {
	const most = 4 * api.MaxLine * api.MaxUndo // bytes of MaxUndo of the longest lines
	l := api.Line{R: letters(api.MaxLine)}
	s := New()
	before := held()
	for range 5 * api.MaxUndo {
		s.Save(l, false)
	}
	if got := held() - before; got > most+most/4 {
		t.Errorf("%d lines of MaxLine runes take %d bytes", s.Len(), got)
	}
	for s.Len() > 1 {
		s.Back()
	}
	if got := held() - before; got > most/4 {
		t.Errorf("%d line of MaxLine runes takes %d bytes", s.Len(), got)
	}
	runtime.KeepAlive(s)
}

// held answers how many bytes are in use.
func held() int {
	runtime.GC()
	runtime.GC()
	var m runtime.MemStats
	runtime.ReadMemStats(&m)
	return int(m.HeapAlloc)
}

// walk: calls one behind another, as the bytes say, each held against the promises; what was answered on the way stays as it was.
func walk(t *testing.T, b []byte) {
	t.Helper()
	p := newPair(t)
	lines := slices.DeleteFunc(someLines(), func(l api.Line) bool { return len(l.R) > 100 })
	var answered []api.Line
	var was []string
	for n, x := range b {
		switch x % 16 {
		case 0:
			p.breaks()
		case 1, 2:
			l, _ := p.back()
			if x >= 128 {
				fill(l.R[:cap(l.R)], '!')
			}
			answered, was = append(answered, l), append(was, said(l))
		case 3, 4:
			p.save(lineOf(n), false)
		case 5:
			p.save(lines[n%len(lines)], x >= 128)
		case 6:
			p.play(strings.Repeat("t", int(x)/8), n)
		case 7:
			p.play(strings.Repeat("o", int(x)/8), n)
		default:
			p.save(lineOf(n), true)
		}
	}
	p.backs()
	for i, l := range answered {
		if said(l) != was[i] {
			t.Fatalf("what the %dth Back answered is %s; was %s", i+1, said(l), was[i])
		}
	}
}

func TestAnyCalls(t *testing.T) {
	r := rand.New(rand.NewSource(14))
	for range 300 {
		b := make([]byte, r.Intn(300))
		r.Read(b)
		walk(t, b)
	}
}

func FuzzCalls(f *testing.F) {
	f.Add([]byte{8, 8, 8, 0, 8, 8, 1, 1, 1})
	f.Add([]byte{246, 8, 8, 1, 129, 1, 3, 133})
	f.Add([]byte{247, 247, 247, 247, 8, 246, 1, 130, 0, 21})
	f.Fuzz(func(t *testing.T, b []byte) {
		if len(b) < 500 {
			walk(t, b)
		}
	})
}

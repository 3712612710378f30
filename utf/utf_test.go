package utf

import (
	"bytes"
	"math"
	"math/rand"
	"slices"
	"testing"
	"unicode/utf8"
)

// begins: as the library tells it.
func begins(p []byte) bool {
	return len(p) > 0 && !utf8.FullRune(p)
}

// wantedStep: the promise word by word, by the library alone.
func wantedStep(p []byte, b byte) ([]byte, []rune) {
	if !begins(p) {
		p = nil
	}
	joined := append(bytes.Clone(p), b)
	if r, size := utf8.DecodeRune(joined); utf8.Valid(joined) && size == len(joined) {
		return nil, []rune{r}
	}
	if begins(joined) {
		return joined, nil
	}
	if len(p) > 0 {
		rest, runes := wantedStep(nil, b)
		return rest, append([]rune{utf8.RuneError}, runes...)
	}
	return nil, []rune{utf8.RuneError}
}

func wantedAll(b []byte) ([]rune, []byte) {
	var runes []rune
	var p []byte
	for _, c := range b {
		var more []rune
		p, more = wantedStep(p, c)
		runes = append(runes, more...)
	}
	return runes, p
}

func wantStep(t *testing.T, p []byte, b byte, rest []byte, runes []rune) {
	t.Helper()
	gotRest, gotRunes := Step(p, b)
	if !bytes.Equal(gotRest, rest) || !slices.Equal(gotRunes, runes) {
		t.Fatalf("Step(%x, %02x): %x, %x; want %x, %x", p, b, gotRest, gotRunes, rest, runes)
	}
}

func wantAll(t *testing.T, b []byte, runes []rune, rest []byte) {
	t.Helper()
	gotRunes, gotRest := All(b)
	if !slices.Equal(gotRunes, runes) || !bytes.Equal(gotRest, rest) {
		t.Fatalf("All(%x): %x, %x; want %x, %x", b, gotRunes, gotRest, runes, rest)
	}
}

// edgeRunes: the least and the greatest rune of each length, those beside the surrogates, and some between.
func edgeRunes() []rune {
	return []rune{
		0, 1, 'a', 0x7e, 0x7f,
		0x80, 0x81, 0xbf, 0xc0, 0xe9, 0x7fe, 0x7ff,
		0x800, 0x801, 0xfff, 0x1000, 0x20ac, 0xcfff, 0xd000, 0xd7fe, 0xd7ff, 0xe000, 0xe001, 0xfffc, 0xfffd, 0xfffe, 0xffff,
		0x10000, 0x10001, 0x1f600, 0x3ffff, 0x40000, 0xfffff, 0x100000, 0x10fffe, 0x10ffff,
	}
}

// numbersWithoutForm: the least and the greatest surrogates, what is below and above all runes.
func numbersWithoutForm() []rune {
	return []rune{
		0xd800, 0xd801, 0xdbff, 0xdc00, 0xdffe, 0xdfff,
		0x110000, 0x110001, 0x1fffff, 0x200000, 0x7fffffff - 1, math.MaxInt32,
		-1, -2, -0x80, -0x110000, math.MinInt32 + 1, math.MinInt32,
	}
}

// formsBeginnings: whether bytes begin a longer form, by the bytes' number with their count at its top, from the forms of all runes.
func formsBeginnings() []bool {
	out := make([]bool, 4<<24)
	for r := rune(0); r <= utf8.MaxRune; r++ {
		if !utf8.ValidRune(r) {
			continue
		}
		form := utf8.AppendRune(nil, r)
		for k := 1; k < len(form); k++ {
			out[numberOf(form[:k])] = true
		}
	}
	return out
}

func numberOf(p []byte) int {
	n := len(p)
	for i := range 3 {
		n <<= 8
		if i < len(p) {
			n |= int(p[i])
		}
	}
	return n
}

// allBeginnings: all that can be pending.
func allBeginnings() [][]byte {
	out := [][]byte{}
	for n, is := range formsBeginnings() {
		if is {
			out = append(out, []byte{byte(n >> 16), byte(n >> 8), byte(n)}[:n>>24])
		}
	}
	return out
}

// shortNoBeginnings: whole forms, bytes that can't begin or go on, beginnings with more around them.
func shortNoBeginnings() [][]byte {
	out := [][]byte{}
	for _, s := range []string{
		"a", "\x00", "\x7f", "\x80", "\xbf", "\xc0", "\xc1", "\xf5", "\xf8", "\xfe", "\xff",
		"ab", "a\xc3", "\xc3a", "\xc3\xa9", "\xc3\xc3", "\xc0\x80", "\xc1\xbf", "\xe0\x9f", "\xe2a", "\xe2\xe2", "\xed\xa0", "\xf0\x8f", "\xf4\x90", "\xf5\x80", "\xff\xff",
		"abc", "\xe2\x82\xac", "\xe2\x82a", "\xe0\x80\x80", "\xed\xa0\x80", "\xf0\x80\x80", "\xf0\x9f\xe2", "\xf4\x90\x80", "\xf0\x9fa", "a\xe2\x82", "\xef\xbf\xbd",
		"abcd", "\xf0\x9f\x98\x80", "\xf4\x90\x80\x80", "\xf0\x9f\x98a", "\xf8\x88\x80\x80", "a\xf0\x9f\x98",
		"abcde", "\xf8\x88\x80\x80\x80", "\xc3\xa9\xc3\xa9\xc3", "\xff\xf0\x9f\x98\x80\xc3",
	} {
		out = append(out, []byte(s))
	}
	return out
}

// noBeginnings: of all lengths.
func noBeginnings() [][]byte {
	return append(shortNoBeginnings(), bytes.Repeat([]byte{0xf0}, 1000), bytes.Repeat([]byte{0x80}, 70000))
}

// P3.1

func TestBeginsKnown(t *testing.T) {
	for _, s := range []string{
		"\xc2", "\xdf", "\xe0", "\xed", "\xef", "\xf0", "\xf4",
		"\xe0\xa0", "\xe0\xbf", "\xe1\x80", "\xe2\x82", "\xed\x80", "\xed\x9f", "\xee\x80", "\xef\xbf", "\xf0\x90", "\xf0\xbf", "\xf1\x80", "\xf4\x80", "\xf4\x8f",
		"\xf0\x90\x80", "\xf0\x9f\x98", "\xf3\xbf\xbf", "\xf4\x8f\xbf",
	} {
		if !Begins([]byte(s)) {
			t.Errorf("Begins(%x): false", s)
		}
	}
	for _, p := range append(noBeginnings(), nil, []byte{}) {
		if Begins(p) {
			t.Errorf("Begins(%x): true", p)
		}
	}
}

func TestBeginsOfAllThatAreShort(t *testing.T) {
	wanted := formsBeginnings()
	var room [3]byte
	for size := 1; size <= 3; size++ {
		for n := range 1 << (8 * size) {
			for i := range size {
				room[i] = byte(n >> (8 * i))
			}
			p := room[:size]
			if got := Begins(p); got != wanted[numberOf(p)] {
				t.Fatalf("Begins(%x): %v", p, got)
			}
		}
	}
}

func TestNothingLongerThanThreeBegins(t *testing.T) {
	for _, p := range allBeginnings() {
		for _, behind := range []string{"\x80\x80\x80", "\xbf\xbf\xbf", "aaa", "\xc3\xc3\xc3"} {
			longer := append(bytes.Clone(p), behind...)
			if Begins(longer) || Begins(longer[:4]) {
				t.Fatalf("%x or its first four bytes begin", longer)
			}
		}
	}
}

func TestStepKnown(t *testing.T) {
	cases := []struct {
		p     string
		b     byte
		rest  string
		runes []rune
	}{
		// Nothing is pending.
		{"", 0, "", []rune{0}},
		{"", 'a', "", []rune{'a'}},
		{"", 0x7f, "", []rune{0x7f}},
		{"", 0x80, "", []rune{0xfffd}},
		{"", 0xbf, "", []rune{0xfffd}},
		{"", 0xc0, "", []rune{0xfffd}},
		{"", 0xc1, "", []rune{0xfffd}},
		{"", 0xc2, "\xc2", nil},
		{"", 0xdf, "\xdf", nil},
		{"", 0xe0, "\xe0", nil},
		{"", 0xf0, "\xf0", nil},
		{"", 0xf4, "\xf4", nil},
		{"", 0xf5, "", []rune{0xfffd}},
		{"", 0xff, "", []rune{0xfffd}},
		// The form goes on.
		{"\xc3", 0xa9, "", []rune{0xe9}},
		{"\xe2", 0x82, "\xe2\x82", nil},
		{"\xe2\x82", 0xac, "", []rune{0x20ac}},
		{"\xf0", 0x9f, "\xf0\x9f", nil},
		{"\xf0\x9f", 0x98, "\xf0\x9f\x98", nil},
		{"\xf0\x9f\x98", 0x80, "", []rune{0x1f600}},
		// The rune that stands for bytes that are none has a form of its own.
		{"\xef\xbf", 0xbd, "", []rune{0xfffd}},
		// The least and the greatest of each length.
		{"\xc2", 0x80, "", []rune{0x80}},
		{"\xdf", 0xbf, "", []rune{0x7ff}},
		{"\xe0\xa0", 0x80, "", []rune{0x800}},
		{"\xef\xbf", 0xbf, "", []rune{0xffff}},
		{"\xf0\x90\x80", 0x80, "", []rune{0x10000}},
		{"\xf4\x8f\xbf", 0xbf, "", []rune{0x10ffff}},
		// Beside the surrogates, and what would be one.
		{"\xed\x9f", 0xbf, "", []rune{0xd7ff}},
		{"\xed", 0xa0, "", []rune{0xfffd, 0xfffd}},
		{"\xed", 0xbf, "", []rune{0xfffd, 0xfffd}},
		{"\xee\x80", 0x80, "", []rune{0xe000}},
		// Longer forms than the shortest, and what would be U+110000.
		{"\xe0", 0x80, "", []rune{0xfffd, 0xfffd}},
		{"\xe0", 0x9f, "", []rune{0xfffd, 0xfffd}},
		{"\xf0", 0x80, "", []rune{0xfffd, 0xfffd}},
		{"\xf0", 0x8f, "", []rune{0xfffd, 0xfffd}},
		{"\xf4", 0x90, "", []rune{0xfffd, 0xfffd}},
		// A byte below 0x80 breaks it off.
		{"\xc3", 'a', "", []rune{0xfffd, 'a'}},
		{"\xe2\x82", 0, "", []rune{0xfffd, 0}},
		{"\xf0\x9f\x98", 0x7f, "", []rune{0xfffd, 0x7f}},
		// A byte that begins another one.
		{"\xc3", 0xc3, "\xc3", []rune{0xfffd}},
		{"\xe2\x82", 0xf0, "\xf0", []rune{0xfffd}},
		{"\xf0\x9f\x98", 0xe2, "\xe2", []rune{0xfffd}},
		// A byte that can neither go on nor begin.
		{"\xc3", 0xff, "", []rune{0xfffd, 0xfffd}},
		{"\xe2\x82", 0xc0, "", []rune{0xfffd, 0xfffd}},
		{"\xf0\x9f\x98", 0xf5, "", []rune{0xfffd, 0xfffd}},
	}
	for _, c := range cases {
		wantStep(t, []byte(c.p), c.b, []byte(c.rest), c.runes)
	}
}

func TestStepOfEachBeginningAndByte(t *testing.T) {
	for _, p := range append(allBeginnings(), nil) {
		for b := range 256 {
			rest, runes := wantedStep(p, byte(b))
			wantStep(t, p, byte(b), rest, runes)
		}
	}
}

func TestStepOfNoBeginningIsAsOfNone(t *testing.T) {
	for _, p := range append(noBeginnings(), []byte{}) {
		for b := range 256 {
			rest, runes := wantedStep(nil, byte(b))
			wantStep(t, p, byte(b), rest, runes)
		}
	}
}

func TestStepLeavesWhatBegins(t *testing.T) {
	for _, p := range append(allBeginnings(), noBeginnings()...) {
		for _, b := range []byte{'a', 0x80, 0x9f, 0xbf, 0xc3, 0xe2, 0xf0, 0xff} {
			if rest, _ := Step(p, b); len(rest) > 0 && !Begins(rest) {
				t.Fatalf("Step(%x, %02x) leaves %x", p, b, rest)
			}
		}
	}
}

// P3.2

func TestAllKnown(t *testing.T) {
	cases := []struct {
		b     string
		runes []rune
		rest  string
	}{
		{"", nil, ""},
		{"a", []rune{'a'}, ""},
		{"a\u00e9\u20ac\U0001f600", []rune{'a', 0xe9, 0x20ac, 0x1f600}, ""},
		{"\xc3", nil, "\xc3"},
		{"\xe2\x82", nil, "\xe2\x82"},
		{"a\xf0\x9f\x98", []rune{'a'}, "\xf0\x9f\x98"},
		{"a\xe2\x82b\xf0\x9f", []rune{'a', 0xfffd, 'b'}, "\xf0\x9f"},
		{"\xff\xfe", []rune{0xfffd, 0xfffd}, ""},
		{"\xc0\x80", []rune{0xfffd, 0xfffd}, ""},
		{"\xe0\x80\x80", []rune{0xfffd, 0xfffd, 0xfffd}, ""},
		{"\xed\xa0\x80", []rune{0xfffd, 0xfffd, 0xfffd}, ""},
		{"\xf4\x90\x80\x80", []rune{0xfffd, 0xfffd, 0xfffd, 0xfffd}, ""},
		{"\xf0\x9f\x98\xf0\x9f\x98\x80", []rune{0xfffd, 0x1f600}, ""},
		{"\xc3\xc3\xc3", []rune{0xfffd, 0xfffd}, "\xc3"},
		{"\xf0\x9f\x80\x80\x80", []rune{0x1f000, 0xfffd}, ""},
	}
	for _, c := range cases {
		wantAll(t, []byte(c.b), c.runes, []byte(c.rest))
	}
	wantAll(t, nil, nil, nil)
}

// mixedBytes: forms, beginnings and bytes of all kinds, as they come.
func mixedBytes(r *rand.Rand) []byte {
	runes, broken := edgeRunes(), shortNoBeginnings()
	var out []byte
	for range r.Intn(12) {
		switch r.Intn(4) {
		case 0:
			out = utf8.AppendRune(out, runes[r.Intn(len(runes))])
		case 1:
			form := utf8.AppendRune(nil, runes[r.Intn(len(runes))])
			out = append(out, form[:r.Intn(len(form))]...)
		case 2:
			out = append(out, broken[r.Intn(len(broken))]...)
		default:
			out = append(out, byte(r.Intn(256)))
		}
	}
	return out
}

func TestAllIsStepByStep(t *testing.T) {
	r := rand.New(rand.NewSource(1))
	for range 50000 {
		b := mixedBytes(r)
		runes, rest := wantedAll(b)
		wantAll(t, b, runes, rest)
	}
}

func TestAllOfMany(t *testing.T) {
	r := rand.New(rand.NewSource(2))
	b := make([]byte, 300000)
	r.Read(b)
	runes, rest := wantedAll(b)
	wantAll(t, b, runes, rest)
}

func TestPutKnown(t *testing.T) {
	cases := []struct {
		r    rune
		want string
	}{
		{0, "\x00"}, {'a', "a"}, {0x7f, "\x7f"},
		{0x80, "\xc2\x80"}, {0xe9, "\xc3\xa9"}, {0x7ff, "\xdf\xbf"},
		{0x800, "\xe0\xa0\x80"}, {0x20ac, "\xe2\x82\xac"}, {0xd7ff, "\xed\x9f\xbf"}, {0xe000, "\xee\x80\x80"}, {0xfffd, "\xef\xbf\xbd"}, {0xffff, "\xef\xbf\xbf"},
		{0x10000, "\xf0\x90\x80\x80"}, {0x1f600, "\xf0\x9f\x98\x80"}, {0x10ffff, "\xf4\x8f\xbf\xbf"},
	}
	for _, c := range cases {
		if got := Put(c.r); string(got) != c.want {
			t.Errorf("Put(%x): %x; want %x", c.r, got, c.want)
		}
	}
}

func TestPutOfWhatHasNoForm(t *testing.T) {
	for _, r := range numbersWithoutForm() {
		if got := Put(r); string(got) != "\xef\xbf\xbd" {
			t.Errorf("Put(%x): %x", r, got)
		}
	}
}

func TestPutAsTheLibraryDoes(t *testing.T) {
	check := func(r rune) {
		if got, want := Put(r), utf8.AppendRune(nil, r); !bytes.Equal(got, want) {
			t.Fatalf("Put(%x): %x; want %x", r, got, want)
		}
	}
	for r := rune(-0x1000); r <= 0x111000; r++ {
		check(r)
	}
	random := rand.New(rand.NewSource(3))
	for range 100000 {
		check(rune(random.Uint32()))
	}
}

func TestAllOfEachForm(t *testing.T) {
	for r := rune(0); r <= utf8.MaxRune; r++ {
		if utf8.ValidRune(r) {
			wantAll(t, Put(r), []rune{r}, nil)
		}
	}
}

// P3.3

// goOn: what Step tells of b, from what is pending on.
func goOn(p, b []byte) ([]rune, []byte) {
	var runes []rune
	for _, c := range b {
		var more []rune
		p, more = Step(p, c)
		runes = append(runes, more...)
	}
	return runes, p
}

func wantParted(t *testing.T, b []byte, at int) {
	t.Helper()
	whole, wholeRest := All(b)
	runes, rest := All(b[:at])
	more, rest := goOn(rest, b[at:])
	if !slices.Equal(append(runes, more...), whole) || !bytes.Equal(rest, wholeRest) {
		t.Fatalf("%x parted at %d: %x, %x; want %x, %x", b, at, append(runes, more...), rest, whole, wholeRest)
	}
}

func TestRunesComeInParts(t *testing.T) {
	for _, r := range edgeRunes() {
		form := Put(r)
		for at := range form {
			runes, pending := All(form[:at])
			if len(runes) != 0 || !bytes.Equal(pending, form[:at]) {
				t.Fatalf("the first %d bytes of %x: %x, %x", at, form, runes, pending)
			}
			runes, rest := goOn(pending, form[at:])
			if !slices.Equal(runes, []rune{r}) || len(rest) != 0 {
				t.Fatalf("%x parted at %d: %x, %x", form, at, runes, rest)
			}
		}
	}
}

func TestPartsAreAsTheWhole(t *testing.T) {
	r := rand.New(rand.NewSource(4))
	for range 10000 {
		b := mixedBytes(r)
		for at := range len(b) + 1 {
			wantParted(t, b, at)
		}
	}
}

func FuzzParts(f *testing.F) {
	f.Add([]byte("a\u00e9\u20ac\U0001f600"), 2)
	f.Add([]byte("\xed\xa0\x80\xf4\x90\xc0\x80"), 1)
	f.Fuzz(func(t *testing.T, b []byte, at int) {
		runes, rest := wantedAll(b)
		wantAll(t, b, runes, rest)
		if at >= 0 && at <= len(b) {
			wantParted(t, b, at)
		}
	})
}

// What holds everywhere.

func TestStepSharesNothing(t *testing.T) {
	room := []byte("\xf0\x9f\x98spare room")
	before := bytes.Clone(room)
	for size := range 4 {
		for b := range 256 {
			rest, _ := Step(room[:size], byte(b))
			clear(rest[:cap(rest)])
			if !bytes.Equal(room, before) {
				t.Fatalf("Step of %d bytes and %02x: what was handed in is now %q", size, b, room)
			}
		}
	}
	rest, _ := Step(room[:2], 0x98)
	clear(room)
	if string(rest) != "\xf0\x9f\x98" {
		t.Errorf("what was answered is now %x", rest)
	}
}

func TestAllSharesNothing(t *testing.T) {
	room := []byte("a\xf0\x9f\x98spare room")
	given := room[:4]
	before := bytes.Clone(room)
	_, rest := All(given)
	clear(rest[:cap(rest)])
	if !bytes.Equal(room, before) {
		t.Errorf("what was handed in is now %q", room)
	}
	runes, rest := All(given)
	clear(room)
	if !slices.Equal(runes, []rune{'a'}) || string(rest) != "\xf0\x9f\x98" {
		t.Errorf("what was answered is now %x, %x", runes, rest)
	}
}

func TestAnswersShareNothing(t *testing.T) {
	clear(Put(0xe9))
	clear(Put(-1))
	if string(Put(0xe9)) != "\xc3\xa9" || string(Put(-1)) != "\xef\xbf\xbd" {
		t.Error("an answer of Put that is written over changes later ones")
	}
	_, runes := Step([]byte("\xc3"), 'a')
	clear(runes)
	wantStep(t, []byte("\xc3"), 'a', nil, []rune{0xfffd, 'a'})
}

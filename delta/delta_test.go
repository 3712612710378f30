package delta

import (
	"bytes"
	"encoding/binary"
	"math"
	"math/big"
	"math/rand"
	"strings"
	"testing"

	"reprise/api"
	"reprise/leb"
)

// tooLong, longForm: bytes that chapter 1 refuses, a tenth byte above 1 and a number that has a shorter form.
const (
	tooLong  = "\xff\xff\xff\xff\xff\xff\xff\xff\xff\x02"
	longForm = "\x82\x00"
)

// number answers a part's number, or a place, as the library writes it.
func number(n uint64) string {
	return string(binary.AppendUvarint(nil, n))
}

func partOfBytes(b string) string {
	return number(2*uint64(len(b))) + b
}

func partOfOld(place, n uint64) string {
	return number(2*n+1) + number(place)
}

// wantedMatch: all places of old, one after another, the longest one of which the first counts.
func wantedMatch(old, b []byte) (place, size int) {
	for p := range old {
		n := 0
		for n < len(b) && p+n < len(old) && old[p+n] == b[n] {
			n++
		}
		if n > size {
			place, size = p, n
		}
	}
	return place, size
}

// wantedMake: P5.2 word by word.
func wantedMake(old, new []byte) string {
	out, plain := "", ""
	flush := func() {
		if plain != "" {
			out += partOfBytes(plain)
		}
		plain = ""
	}
	for i := 0; i < len(new); {
		place, size := wantedMatch(old, new[i:])
		if size < 4 {
			plain += string(new[i : i+1])
			i++
			continue
		}
		flush()
		out += partOfOld(uint64(place), uint64(size))
		i += size
	}
	flush()
	return out
}

// wantedApply: P5.1 word by word, with numbers of any size.
func wantedApply(old, d []byte, most int) (string, api.Errno) {
	out := ""
	for len(d) > 0 {
		first, size, errno := leb.Read(d)
		if errno != api.OK {
			return "", errno
		}
		d = d[size:]
		place := uint64(0)
		if first%2 == 1 {
			place, size, errno = leb.Read(d)
			if errno != api.OK {
				return "", errno
			}
			d = d[size:]
		}
		n := first / 2
		if n == 0 {
			return "", api.ErrBytes
		}
		if sum(uint64(len(out)), n).Cmp(big.NewInt(int64(max(most, 0)))) > 0 {
			return "", api.ErrLong
		}
		if first%2 == 0 {
			if sum(n).Cmp(big.NewInt(int64(len(d)))) > 0 {
				return "", api.ErrShort
			}
			out += string(d[:n])
			d = d[n:]
			continue
		}
		if sum(place, n).Cmp(big.NewInt(int64(len(old)))) > 0 {
			return "", api.ErrBytes
		}
		out += string(old[place : place+n])
	}
	return out, api.OK
}

func sum(l ...uint64) *big.Int {
	out := new(big.Int)
	for _, n := range l {
		out.Add(out, new(big.Int).SetUint64(n))
	}
	return out
}

func wantApply(t *testing.T, old, d string, most int, want string, errno api.Errno) {
	t.Helper()
	got, gotErrno := Apply([]byte(old), []byte(d), most)
	if string(got) != want || gotErrno != errno {
		t.Errorf("Apply(%q, %x, %d): %q, %d; want %q, %d", old, d, most, got, gotErrno, want, errno)
	}
}

func wantMake(t *testing.T, old, new, want string) {
	t.Helper()
	if got := Make([]byte(old), []byte(new)); string(got) != want {
		t.Errorf("Make(%q, %q): %x; want %x", old, new, got, want)
	}
	wantApply(t, old, want, len(new), new, api.OK)
}

// wantAsPromised holds Make against the promise, and what it made against Apply, at just enough room, more and too little.
func wantAsPromised(t *testing.T, old, new []byte) {
	t.Helper()
	d := Make(old, new)
	if want := wantedMake(old, new); string(d) != want {
		t.Fatalf("Make(%q, %q): %x; want %x", old, new, d, want)
	}
	wantBack(t, old, d, new)
}

func wantBack(t *testing.T, old, d, new []byte) {
	t.Helper()
	for _, most := range []int{len(new), len(new) + 1, math.MaxInt} {
		got, errno := Apply(old, d, most)
		if !bytes.Equal(got, new) || errno != api.OK {
			t.Fatalf("Apply of Make's %d bytes, %d at most: %d bytes, %d; want %d", len(d), most, len(got), errno, len(new))
		}
	}
	if len(new) == 0 {
		return
	}
	if got, errno := Apply(old, d, len(new)-1); len(got) != 0 || errno != api.ErrLong {
		t.Fatalf("Apply of Make's %d bytes, a byte too little room: %d bytes, %d", len(d), len(got), errno)
	}
}

// letters answers bytes of the first few letters, so that much stands at several places.
func letters(r *rand.Rand, size, few int) []byte {
	out := make([]byte, size)
	for i := range out {
		out[i] = byte('a' + r.Intn(few))
	}
	return out
}

// P5.1

func TestApplyKnown(t *testing.T) {
	wantApply(t, "", "", 0, "", api.OK)
	wantApply(t, "abcde", "", 9, "", api.OK)
	wantApply(t, "", "\x02x", 9, "x", api.OK)
	wantApply(t, "", "\x06xyz", 9, "xyz", api.OK)
	wantApply(t, "abcde", "\x0b\x00", 9, "abcde", api.OK)
	wantApply(t, "abcde", "\x03\x00", 9, "a", api.OK)
	wantApply(t, "abcde", "\x05\x02", 9, "cd", api.OK)
	wantApply(t, "abcde", "\x05\x02\x04xy\x03\x04\x02z\x0b\x00", 20, "cdxyezabcde", api.OK)
	// Parts of bytes may follow one another, and bytes of old may be few: Make alone doesn't write that.
	wantApply(t, "abcde", "\x02x\x02y\x03\x00\x03\x00", 20, "xyaa", api.OK)
	wantApply(t, "", "\x02\x00\x02\xff", 9, "\x00\xff", api.OK)
}

func TestApplyNumbersOfSeveralBytes(t *testing.T) {
	old := strings.Repeat("0123456789", 50)
	plain := strings.Repeat("plain bytes ", 20)
	wantApply(t, old, partOfOld(130, 300), 1000, old[130:430], api.OK)
	wantApply(t, old, partOfBytes(plain), 1000, plain, api.OK)
	wantApply(t, old, partOfBytes(plain)+partOfOld(499, 1)+partOfOld(0, 500), 1000, plain+"9"+old, api.OK)
}

func TestApplyOfNothing(t *testing.T) {
	for _, old := range []string{"", "abcde"} {
		for _, most := range []int{math.MinInt, -1, 0, 1, math.MaxInt} {
			wantApply(t, old, "", most, "", api.OK)
			wantApply(t, old, "\x00", most, "", api.ErrBytes)
			wantApply(t, old, "\x00xy", most, "", api.ErrBytes)
			wantApply(t, old, "\x01\x00", most, "", api.ErrBytes)
			wantApply(t, old, "\x01\x04", most, "", api.ErrBytes)
			wantApply(t, old, "\x01"+number(math.MaxUint64), most, "", api.ErrBytes)
		}
	}
	wantApply(t, "abcde", "\x05\x00\x00", 9, "", api.ErrBytes)
	wantApply(t, "abcde", "\x05\x00\x01\x00", 9, "", api.ErrBytes)
}

func TestApplyMost(t *testing.T) {
	for _, d := range []string{"\x02x", "\x03\x00"} {
		for _, most := range []int{math.MinInt, math.MinInt + 1, -2, -1, 0} {
			wantApply(t, "abcde", d, most, "", api.ErrLong)
		}
	}
	wantApply(t, "abcde", "\x02x", 1, "x", api.OK)
	wantApply(t, "abcde", "\x03\x00", 1, "a", api.OK)
	parts := "\x0b\x00\x04xy\x07\x01"
	for most := range 10 {
		wantApply(t, "abcde", parts, most, "", api.ErrLong)
	}
	for _, most := range []int{10, 11, math.MaxInt} {
		wantApply(t, "abcde", parts, most, "abcdexybcd", api.OK)
	}
	// Not a byte more than most, behind parts that filled it.
	wantApply(t, "abcde", "\x0b\x00\x02x", 5, "", api.ErrLong)
	wantApply(t, "abcde", "\x0b\x00\x03\x00", 5, "", api.ErrLong)
}

func TestApplyWrongNumbers(t *testing.T) {
	for _, most := range []int{math.MinInt, 0, 9, math.MaxInt} {
		wantApply(t, "abcde", tooLong, most, "", api.ErrBytes)
		wantApply(t, "abcde", tooLong+"\x00", most, "", api.ErrBytes)
		wantApply(t, "abcde", longForm+"x", most, "", api.ErrBytes)
		wantApply(t, "abcde", "\x83\x00\x00", most, "", api.ErrBytes)
		wantApply(t, "abcde", "\x80\x00", most, "", api.ErrBytes)
		wantApply(t, "abcde", "\x80", most, "", api.ErrShort)
		wantApply(t, "abcde", tooLong[:9], most, "", api.ErrShort)
		for _, n := range []string{"\x01", "\x03", "\x0b", "\x0d", number(math.MaxUint64)} {
			wantApply(t, "abcde", n, most, "", api.ErrShort)
			wantApply(t, "abcde", n+"\x80", most, "", api.ErrShort)
			wantApply(t, "abcde", n+tooLong[:9], most, "", api.ErrShort)
			wantApply(t, "abcde", n+tooLong, most, "", api.ErrBytes)
			wantApply(t, "abcde", n+longForm, most, "", api.ErrBytes)
			wantApply(t, "abcde", n+"\x80\x00", most, "", api.ErrBytes)
		}
	}
}

func TestApplyPlacesOfOld(t *testing.T) {
	for place := range uint64(8) {
		for n := uint64(1); n < 8; n++ {
			if place+n <= 5 {
				wantApply(t, "abcde", partOfOld(place, n), 9, "abcde"[place:place+n], api.OK)
			} else {
				wantApply(t, "abcde", partOfOld(place, n), 9, "", api.ErrBytes)
			}
		}
	}
	wantApply(t, "", partOfOld(0, 1), 9, "", api.ErrBytes)
	wantApply(t, "", partOfOld(1, 1), 9, "", api.ErrBytes)
}

// TestApplyGreatNumbers: a place and n of which the sum doesn't fit an int, or no number at all.
func TestApplyGreatNumbers(t *testing.T) {
	greatest := uint64(math.MaxInt)
	for _, place := range []uint64{greatest - 5, greatest - 1, greatest, greatest + 1, greatest + 2, math.MaxUint64 - 4, math.MaxUint64 - 1, math.MaxUint64} {
		for n := uint64(1); n < 7; n++ {
			wantApply(t, "abcde", partOfOld(place, n), 9, "", api.ErrBytes)
			wantApply(t, "", partOfOld(place, n), 9, "", api.ErrBytes)
		}
		wantApply(t, "abcde", partOfOld(place, greatest), math.MaxInt, "", api.ErrBytes)
		wantApply(t, "abcde", partOfOld(place, greatest), math.MaxInt-1, "", api.ErrLong)
		wantApply(t, "abcde", partOfOld(place, 6), 5, "", api.ErrLong)
	}
	for _, n := range []uint64{6, 1 << 31, greatest - 1, greatest} {
		for place := range uint64(6) {
			wantApply(t, "abcde", partOfOld(place, n), math.MaxInt, "", api.ErrBytes)
			wantApply(t, "abcde", partOfOld(place, n), int(n)-1, "", api.ErrLong)
		}
		wantApply(t, "abcde", number(2*n)+"xyz", math.MaxInt, "", api.ErrShort)
		wantApply(t, "abcde", number(2*n)+"xyz", int(n)-1, "", api.ErrLong)
		// What went ahead counts: there is no room for as much as an int can tell behind it.
		wantApply(t, "abcde", "\x02x"+number(2*n)+"xyz", int(n), "", api.ErrLong)
		wantApply(t, "abcde", "\x02x"+partOfOld(0, n), int(n), "", api.ErrLong)
	}
}

func TestApplyEndsAheadOfItsBytes(t *testing.T) {
	wantApply(t, "abcde", "\x02", 9, "", api.ErrShort)
	wantApply(t, "abcde", "\x06", 9, "", api.ErrShort)
	wantApply(t, "abcde", "\x06xy", 9, "", api.ErrShort)
	wantApply(t, "abcde", "\x06xyz", 9, "xyz", api.OK)
	// Old's bytes don't stand for those that d hasn't.
	wantApply(t, "abcdefgh", "\x03\x00\x06xy", 9, "", api.ErrShort)
}

// TestApplyCut: cut where a part ends it is the parts ahead; elsewhere there isn't all of it.
func TestApplyCut(t *testing.T) {
	old := strings.Repeat("0123456789", 50)
	d, come := "", ""
	whole := map[int]string{0: ""}
	for _, p := range []struct{ part, comes string }{
		{partOfBytes("abc"), "abc"},
		{partOfOld(300, 4), old[300:304]},
		{partOfOld(2, 200), old[2:202]},
		{partOfBytes(strings.Repeat("xy", 70)), strings.Repeat("xy", 70)},
		{partOfOld(499, 1), "9"},
		{partOfBytes("z"), "z"},
	} {
		d += p.part
		come += p.comes
		whole[len(d)] = come
	}
	for k := range len(d) + 1 {
		want, found := whole[k]
		errno := api.ErrShort
		if found {
			errno = api.OK
		}
		wantApply(t, old, d[:k], len(come), want, errno)
		wantApply(t, old, d[:k], math.MaxInt, want, errno)
	}
}

func TestApplyErrorsInTheirOrder(t *testing.T) {
	cases := []struct {
		d     string
		most  int
		errno api.Errno
	}{
		// A number's error is ahead of all: of n 0, of too much, of what old hasn't.
		{"\x01", 0, api.ErrShort},
		{"\x01\x80", 9, api.ErrShort},
		{"\x01" + longForm, 9, api.ErrBytes},
		{"\x7f\x80", 0, api.ErrShort},
		{"\x7f" + tooLong, 0, api.ErrBytes},
		// Then n 0, then too much: ahead of bytes that aren't there, in d or in old.
		{"\x01\x7f", 0, api.ErrBytes},
		{"\x00", 0, api.ErrBytes},
		{"\x06xy", 2, api.ErrLong},
		{"\x06", 0, api.ErrLong},
		{"\x06xy", 3, api.ErrShort},
		{"\x0d\x00", 5, api.ErrLong},
		{"\x0d\x00", 6, api.ErrBytes},
		{"\x05\x7f", 1, api.ErrLong},
		{"\x05\x7f", 2, api.ErrBytes},
		// The part ahead is the one that tells, whatever is wrong with those behind it.
		{"\x00\x80", 9, api.ErrBytes},
		{"\x06xyz" + tooLong, 2, api.ErrLong},
		{"\x06xyz\x00", 2, api.ErrLong},
		{"\x0d\x00\x80", 9, api.ErrBytes},
		{"\x03\x05\x06xy", 9, api.ErrBytes},
		{"\x03\x04\x80", 9, api.ErrShort},
		{"\x03\x04\x0d\x00", 6, api.ErrLong},
		{"\x03\x04\x0d\x00", 7, api.ErrBytes},
		{"\x03\x04\x06xy", 3, api.ErrLong},
		{"\x03\x04\x06xy", 4, api.ErrShort},
		{"\x03\x04" + longForm, 0, api.ErrLong},
		{"\x03\x04" + longForm, 1, api.ErrBytes},
		{"\x03\x04\x00", 1, api.ErrBytes},
	}
	for _, c := range cases {
		wantApply(t, "abcde", c.d, c.most, "", c.errno)
	}
}

// TestApplyShortDeltas: at most three bytes, of which the others are parts, places and marks of longer numbers.
func TestApplyShortDeltas(t *testing.T) {
	others := "\x00\x01\x02\x03\x04\x05\x06\x07\x08\x09\x7e\x7f\x80\x81\x82"
	for first := range 256 {
		for _, second := range []byte(others) {
			for _, third := range []byte(others) {
				d := []byte{byte(first), second, third}
				for _, most := range []int{0, 1, 2, 9} {
					for size := range len(d) + 1 {
						want, errno := wantedApply([]byte("abcde"), d[:size], most)
						wantApply(t, "abcde", string(d[:size]), most, want, errno)
					}
				}
			}
		}
	}
}

func TestApplyAnyBytes(t *testing.T) {
	r := rand.New(rand.NewSource(1))
	for range 200000 {
		old := letters(r, r.Intn(12), 20)
		var d []byte
		for range r.Intn(6) {
			switch r.Intn(4) {
			case 0:
				d = append(d, partOfOld(uint64(r.Intn(12)), uint64(r.Intn(8)))...)
			case 1:
				d = append(d, partOfBytes(string(letters(r, r.Intn(8), 20)))...)
			case 2:
				d = append(d, number(r.Uint64()>>r.Intn(64))...)
			default:
				d = append(d, byte(r.Intn(256)))
			}
		}
		most := r.Intn(30) - 3
		want, errno := wantedApply(old, d, most)
		wantApply(t, string(old), string(d), most, want, errno)
		if t.Failed() {
			return
		}
	}
}

// P5.2

func TestMakeKnown(t *testing.T) {
	// The chapter's example: one part.
	wantMake(t, "abcde", "abcde", "\x0b\x00")
	// Some bytes stand in old, some don't.
	wantMake(t, "the old words", "all the old songs", "\x08all \x11\x00\x0asongs")
	wantMake(t, "0123456789", "--45678--0123--", "\x04--\x0b\x04\x04--\x09\x00\x04--")
	wantMake(t, "0123456789", "67890123", "\x09\x06\x09\x00")
}

func TestMakeOfNoBytes(t *testing.T) {
	wantMake(t, "", "", "")
	wantMake(t, "abcdef", "", "")
	wantMake(t, "", "abcdef", "\x0cabcdef")
	if got := Make(nil, nil); len(got) != 0 {
		t.Errorf("Make(nil, nil): %x", got)
	}
	if got := Make([]byte{}, []byte("x")); string(got) != "\x02x" {
		t.Errorf("Make of no bytes: %x", got)
	}
}

func TestMakeMinMatch(t *testing.T) {
	if api.MinMatch != 4 {
		t.Fatalf("MinMatch: %d; these tests are of 4", api.MinMatch)
	}
	old := "..abcde.."
	wantMake(t, old, "xabcy", "\x0axabcy")
	wantMake(t, old, "xabcdy", "\x02x\x09\x02\x02y")
	wantMake(t, old, "xabcdey", "\x02x\x0b\x02\x02y")
	wantMake(t, "abc", "abc", "\x06abc")
	wantMake(t, "abc", "abcabcabc", "\x12abcabcabc")
	wantMake(t, "abcd", "abcd", "\x09\x00")
	wantMake(t, "abcde", "abcde", "\x0b\x00")
	// Short matches ahead of a long one are bytes of the part ahead of it.
	wantMake(t, "abc12345", "abcx1234abc", "\x08abcx\x09\x03\x06abc")
}

func TestMakeAtOldsEnd(t *testing.T) {
	wantMake(t, "..abcd", "abcd", "\x09\x02")
	wantMake(t, "..abcd", "abcdx", "\x09\x02\x02x")
	wantMake(t, "..abcd", "abcd..", "\x09\x02\x04..")
	wantMake(t, "..abc", "abcd", "\x08abcd")
	// A match doesn't go on from old's end at its beginning, nor into what is made.
	wantMake(t, "abcd", "abcdabcd", "\x09\x00\x09\x00")
	wantMake(t, "abcdef", "cdefabcd", "\x09\x02\x09\x00")
	wantMake(t, "abcdef", "efab", "\x08efab")
	wantMake(t, "abcd", "abcdabc", "\x09\x00\x06abc")
	wantMake(t, "abcda", "abcdabcda", "\x0b\x00\x09\x01")
}

func TestMakeFirstPlace(t *testing.T) {
	wantMake(t, "abcd.abcd.abcd", "abcd", "\x09\x00")
	wantMake(t, "..abcd.abcd.abcd", "abcd", "\x09\x02")
	wantMake(t, "xabcdyabcdz", "abcd", "\x09\x01")
	wantMake(t, "xabcdyabcdz", "abcdz", "\x0b\x06")
	wantMake(t, "abcdeabcdfabcdeabcdf", "abcdfx", "\x0b\x05\x02x")
	// The first place of a match may itself lie within a run of others.
	wantMake(t, "ababababab", "babab", "\x0b\x01")
}

func TestMakeLongestStandsBehindShorter(t *testing.T) {
	wantMake(t, "abcd.abcde.abcdef", "abcdef", "\x0d\x0b")
	wantMake(t, "abcd.abcde.abcdef", "abcdeg", "\x0b\x05\x02g")
	wantMake(t, "abcdef.abcde.abcd", "abcdeg", "\x0b\x00\x02g")
	// The longest from its place on is taken, though a part from the next place on would reach further.
	wantMake(t, "abcd.bcdefgh", "abcdefgh", "\x09\x00\x09\x08")
	wantMake(t, "abcd.bcdefg", "abcdefg", "\x09\x00\x06efg")
}

func TestMakeRunsOfOneByte(t *testing.T) {
	for o := range 20 {
		for n := range 45 {
			wantAsPromised(t, bytes.Repeat([]byte("a"), o), bytes.Repeat([]byte("a"), n))
			wantAsPromised(t, bytes.Repeat([]byte("a"), o), bytes.Repeat([]byte("b"), n))
			wantAsPromised(t, append(bytes.Repeat([]byte("a"), o), 'b'), bytes.Repeat([]byte("a"), n))
			wantAsPromised(t, bytes.Repeat([]byte("a"), o), append(bytes.Repeat([]byte("a"), n), 'b'))
		}
	}
	wantMake(t, "aaaaaa", "aaaaaa", "\x0d\x00")
	wantMake(t, "aaaaaa", "aaaaaaaaa", "\x0d\x00\x06aaa")
	wantMake(t, "baaaaaa", "aaaab", "\x09\x01\x02b")
}

// TestMakeAllShort: each old and new of two letters, of at most eight bytes.
func TestMakeAllShort(t *testing.T) {
	var all [][]byte
	for size := range 9 {
		for i := range 1 << size {
			b := make([]byte, size)
			for k := range b {
				b[k] = byte('a' + i>>k&1)
			}
			all = append(all, b)
		}
	}
	for _, old := range all {
		for _, new := range all {
			if got, want := Make(old, new), wantedMake(old, new); string(got) != want {
				t.Fatalf("Make(%q, %q): %x; want %x", old, new, got, want)
			}
		}
	}
}

func TestMakeManyTexts(t *testing.T) {
	r := rand.New(rand.NewSource(2))
	for range 6000 {
		few := 1 + r.Intn(5)
		old, new := letters(r, r.Intn(80), few), letters(r, r.Intn(80), few)
		wantAsPromised(t, old, new)
		// Pieces of old, some of them changed.
		new = nil
		for range r.Intn(6) {
			from := r.Intn(len(old) + 1)
			new = append(new, old[from:from+r.Intn(len(old)-from+1)]...)
			new = append(new, letters(r, r.Intn(4), few+1)...)
		}
		wantAsPromised(t, old, new)
	}
}

func TestMakeAllBytes(t *testing.T) {
	r := rand.New(rand.NewSource(3))
	var each []byte
	for c := range 256 {
		each = append(each, byte(c))
	}
	wantAsPromised(t, each, each)
	wantAsPromised(t, each, append(bytes.Clone(each), each...))
	wantAsPromised(t, append(bytes.Clone(each), each...), each)
	for range 50 {
		old := make([]byte, 1000)
		r.Read(old)
		new := bytes.Clone(old)
		for range r.Intn(40) {
			new[r.Intn(len(new))] = byte(r.Intn(256))
		}
		wantAsPromised(t, old, new)
	}
}

func TestMakeLongerTexts(t *testing.T) {
	r := rand.New(rand.NewSource(4))
	// Each is the two ahead of it together: what stands in it stands at many places, shorter and longer.
	a, b := []byte("a"), []byte("ab")
	for len(b) < 1000 {
		a, b = b, append(bytes.Clone(b), a...)
	}
	wantAsPromised(t, b, a)
	wantAsPromised(t, a, b)
	wantAsPromised(t, b, append([]byte("b"), b...))
	for _, few := range []int{1, 2, 3, 26} {
		wantAsPromised(t, letters(r, 1500, few), letters(r, 1500, few))
		period := letters(r, 7, few)
		wantAsPromised(t, bytes.Repeat(period, 150), append(letters(r, 5, few), bytes.Repeat(period, 160)...))
	}
	for k := range 40 {
		// Runs of all lengths, parted from one another.
		runs := []byte{}
		for i := range k {
			runs = append(append(runs, bytes.Repeat([]byte("a"), i)...), 'b')
		}
		wantAsPromised(t, runs, append(bytes.Repeat([]byte("a"), k/2), 'b', 'c'))
		wantAsPromised(t, runs, append([]byte("b"), runs...))
	}
}

// TestMakeOfMany: to try each place of old for each place of new would take days.
func TestMakeOfMany(t *testing.T) {
	size := 1 << 20
	run := bytes.Repeat([]byte("a"), size)
	r := rand.New(rand.NewSource(5))
	mixed := letters(r, size, 2)
	for _, c := range []struct{ old, new []byte }{
		{run, run},
		{append(bytes.Clone(run), 'b'), bytes.Repeat([]byte("aaaac"), size/5)},
		{run, bytes.Repeat([]byte("aaab"), size/4)},
		{bytes.Repeat([]byte("ab"), size/2), append(bytes.Clone(run), bytes.Repeat([]byte("ab"), size/4)...)},
		{mixed, mixed},
		{mixed, letters(r, size, 2)},
	} {
		wantBack(t, c.old, Make(c.old, c.new), c.new)
	}
}

func FuzzMake(f *testing.F) {
	f.Add([]byte("abcdeabcdf"), []byte("xabcdfy"))
	f.Add([]byte("aaaa"), []byte("aaaaaaaaa"))
	f.Add([]byte(""), []byte("ab"))
	f.Fuzz(func(t *testing.T, old, new []byte) {
		wantAsPromised(t, old, new)
	})
}

func FuzzApply(f *testing.F) {
	f.Add([]byte("abcde"), []byte("\x0b\x00\x02x\x05\x00"), 8)
	f.Add([]byte("abcde"), []byte("\x01\x80"), 8)
	f.Add([]byte(""), []byte("\x06xyz"+tooLong), -1)
	f.Fuzz(func(t *testing.T, old, d []byte, most int) {
		if most > 1<<16 {
			most %= 1 << 16
		}
		want, errno := wantedApply(old, d, most)
		wantApply(t, string(old), string(d), most, want, errno)
	})
}

// P5.3

// wantNothingTwice: no byte that begins MinMatch bytes of old is told as a byte, and no two parts of bytes follow one another.
func wantNothingTwice(t *testing.T, old, new []byte) {
	t.Helper()
	d := Make(old, new)
	place, ahead := 0, false
	for len(d) > 0 {
		first, size := binary.Uvarint(d)
		d = d[size:]
		n := int(first / 2)
		if first%2 == 1 {
			_, size = binary.Uvarint(d)
			d = d[size:]
			place += n
			ahead = false
			continue
		}
		if ahead {
			t.Fatalf("Make(%q, %q): two parts of bytes, one behind another", old, new)
		}
		ahead = true
		for i := place; i < place+n && i+api.MinMatch <= len(new); i++ {
			if bytes.Contains(old, new[i:i+api.MinMatch]) {
				t.Fatalf("Make(%q, %q): %q is told again", old, new, new[i:i+api.MinMatch])
			}
		}
		d = d[n:]
		place += n
	}
	if place != len(new) {
		t.Fatalf("Make(%q, %q): %d bytes", old, new, place)
	}
}

func TestWhatIsAlikeIsNotSaidTwice(t *testing.T) {
	r := rand.New(rand.NewSource(6))
	for range 3000 {
		few := 1 + r.Intn(4)
		wantNothingTwice(t, letters(r, r.Intn(60), few), letters(r, r.Intn(60), few))
	}
	old := letters(r, 5000, 26)
	for size := api.MinMatch; size < len(old); size += 97 {
		if d := Make(old, old[:size]); string(d) != partOfOld(0, uint64(size)) {
			t.Errorf("Make of old's first %d bytes: %x", size, d)
		}
	}
	for at := 0; at < len(old); at += 101 {
		new := bytes.Clone(old)
		new[at] = '.'
		if d := Make(old, new); len(d) > 20 {
			t.Errorf("a byte at %d is another: a delta of %d bytes", at, len(d))
		}
		wantNothingTwice(t, old[:300], new[:300])
	}
}

// What holds everywhere.

// roomFor answers b with room behind it, and all of it.
func roomFor(b string) (given, room []byte) {
	room = []byte(b + "spare room that nobody may touch")
	return room[:len(b)], room
}

func TestNothingHandedInIsChanged(t *testing.T) {
	old, oldRoom := roomFor("abcdeabcdf")
	new, newRoom := roomFor("xabcdfy")
	d, dRoom := roomFor("\x02x\x0b\x05\x02y")
	bad, badRoom := roomFor("\x02x\x0b\x05\x06y")
	rooms := [][]byte{oldRoom, newRoom, dRoom, badRoom}
	var before [][]byte
	for _, room := range rooms {
		before = append(before, bytes.Clone(room))
	}
	made := Make(old, new)
	made[0] = 0xee
	_ = append(made, "more"...)
	for _, delta := range [][]byte{d, []byte("\x0b\x00"), []byte("\x04xy"), bad} {
		came, _ := Apply(old, delta, 20)
		clear(came)
		_ = append(came, "more"...)
	}
	came, _ := Apply(old, d, 20)
	clear(came)
	_ = append(came, "more"...)
	for i, room := range rooms {
		if !bytes.Equal(room, before[i]) {
			t.Errorf("what was handed in is now %q; it was %q", room, before[i])
		}
	}
}

func TestNothingHandedInIsKept(t *testing.T) {
	old, oldRoom := roomFor("abcdeabcdf")
	new, newRoom := roomFor("xabcdfy")
	d, dRoom := roomFor("\x04zz\x0b\x05\x02y")
	made := Make(old, new)
	plain := Make(nil, new)
	came, _ := Apply(old, d, 20)
	alone, _ := Apply(old, []byte("\x0b\x00"), 20)
	clear(oldRoom)
	clear(newRoom)
	clear(dRoom)
	if string(made) != "\x02x\x0b\x05\x02y" || string(plain) != "\x0exabcdfy" {
		t.Errorf("what Make answered is now %x, %x", made, plain)
	}
	if string(came) != "zzabcdfy" || string(alone) != "abcde" {
		t.Errorf("what Apply answered is now %q, %q", came, alone)
	}
}

func TestOldAndNewInOneMemory(t *testing.T) {
	room := []byte("abcdefgh")
	if d := Make(room, room); string(d) != "\x11\x00" {
		t.Errorf("Make of the same memory: %x", d)
	}
	if d := Make(room[:6], room[2:]); string(d) != "\x09\x02\x04gh" {
		t.Errorf("Make of memory that overlaps: %x", d)
	}
	one, _ := Apply(room, []byte("\x11\x00"), 8)
	other, _ := Apply(room, []byte("\x11\x00"), 8)
	one[0] = 'X'
	if string(room) != "abcdefgh" || string(other) != "abcdefgh" {
		t.Errorf("two answers share memory: %q, %q", room, other)
	}
}

func TestSameAgain(t *testing.T) {
	old, new := []byte("abcd1abcd2abcd3"), []byte("xabcd2abcdy")
	d := Make(old, new)
	for range 20 {
		Make(new, old)
		if _, errno := Apply(new, d, 1); errno != api.ErrLong {
			t.Fatalf("Apply at too little room: %d", errno)
		}
		if again := Make(old, new); !bytes.Equal(again, d) {
			t.Fatalf("another delta the next time: %x; it was %x", again, d)
		}
	}
}

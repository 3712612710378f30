package snap

import (
	"bytes"
	"math"
	"math/rand"
	"reflect"
	"slices"
	"strings"
	"testing"

	"reprise/api"
	"reprise/screen"
)

// P10.1: Put, and Read of what it tells

// TestPutByHand: each part of the bytes on its own line.
func TestPutByHand(t *testing.T) {
	for _, x := range []struct {
		rows, cols int
		text       string
		want       []string
	}{
		{1, 1, "", []string{"\x01\x01", "\x00\x00", "\x06", "\x00", "\x00\x00", "\x00\x00\x00", "\x01", "\x01 \x00", "\x00\x00\x00", "\x00", "\x00"}},
		{1, 1, "a", []string{"\x01\x01", "\x00\x00", "\x07", "\x00", "\x00\x00", "\x00\x00\x00", "\x01", "\x01a\x00", "\x00\x00\x00", "\x00", "\x00"}},
		// Where the cursor is, the look, the rows that scroll, what is saved.
		{4, 5, "\x1b[2;3r\x1b[3;5H\x1b[1;4;31m\x1b7\x1b[4;2H\x1b[7;44m", []string{"\x04\x05", "\x03\x01", "\x06", "\xa7\x0a", "\x01\x02", "\x02\x04\x23", "\x01\x00\x00\x00\x00", "\x14 \x00", "\x00\x00\x00", "\x00", "\x00"}},
		// Tabs: each eighth column, one that is set, one that is taken.
		{1, 10, "", []string{"\x01\x0a", "\x00\x00", "\x06", "\x00", "\x00\x00", "\x00\x00\x00", "\x01\x00\x00\x00\x00\x00\x00\x00\x01\x00", "\x0a \x00", "\x00\x00\x00", "\x00", "\x00"}},
		{1, 10, "\x1b[0g\x1b[10G\x1bH", []string{"\x01\x0a", "\x00\x09", "\x06", "\x00", "\x00\x00", "\x00\x00\x00", "\x00\x00\x00\x00\x00\x00\x00\x00\x01\x01", "\x0a \x00", "\x00\x00\x00", "\x00", "\x00"}},
		{1, 3, "\x1b[3g", []string{"\x01\x03", "\x00\x00", "\x06", "\x00", "\x00\x00", "\x00\x00\x00", "\x00\x00\x00", "\x03 \x00", "\x00\x00\x00", "\x00", "\x00"}},
		// Cells: a wide rune's halves, a look; a run goes on from row to row.
		{2, 3, "\x1b[32m\u6f22\x1b[ma", []string{"\x02\x03", "\x00\x02", "\x07", "\x00", "\x00\x01", "\x00\x00\x00", "\x01\x00\x00", "\x01\xa2\xde\x01\xc1\x01\x01\x00\xc2\x01\x01a\x00\x03 \x00", "\x00\x00\x00", "\x00", "\x00"}},
		{2, 2, "\x1b[2Gaa", []string{"\x02\x02", "\x01\x01", "\x06", "\x00", "\x00\x01", "\x00\x00\x00", "\x01\x00", "\x01 \x00\x02a\x00\x01 \x00", "\x00\x00\x00", "\x00", "\x00"}},
		// The other place and cells, behind the ones that are shown.
		{2, 3, "ab\x1b[?1049h\x1b[2;2Hc", []string{"\x02\x03", "\x01\x02", "\x0e", "\x00", "\x00\x01", "\x00\x00\x00", "\x01\x00\x00", "\x04 \x00\x01c\x00\x01 \x00", "\x00\x02", "\x01a\x00\x01b\x00\x04 \x00", "\x00\x00\x00", "\x00", "\x00"}},
		{3, 1, "\x1b[2;1Hz\x1b[?1049h\x1b[H", []string{"\x03\x01", "\x00\x00", "\x0e", "\x00", "\x00\x02", "\x00\x00\x00", "\x01", "\x03 \x00", "\x01\x00", "\x01 \x00\x01z\x00\x01 \x00", "\x00\x00\x00", "\x00", "\x00"}},
		// The parser: Mode, Private, how many Params and each; Inter; Utf.
		{1, 1, "\x1b", []string{"\x01\x01", "\x00\x00", "\x06", "\x00", "\x00\x00", "\x00\x00\x00", "\x01", "\x01 \x00", "\x01\x00\x00", "\x00", "\x00"}},
		{1, 1, "\x1b(#", []string{"\x01\x01", "\x00\x00", "\x06", "\x00", "\x00\x00", "\x00\x00\x00", "\x01", "\x01 \x00", "\x02\x00\x00", "\x02(#", "\x00"}},
		{1, 1, "\x1b(#)", []string{"\x01\x01", "\x00\x00", "\x06", "\x00", "\x00\x00", "\x00\x00\x00", "\x01", "\x01 \x00", "\x03\x00\x00", "\x00", "\x00"}},
		{1, 1, "\x1b[?1;300;;65535", []string{"\x01\x01", "\x00\x00", "\x06", "\x00", "\x00\x00", "\x00\x00\x00", "\x01", "\x01 \x00", "\x04?\x04\x01\xac\x02\x00\xff\xff\x03", "\x00", "\x00"}},
		{1, 1, "\x1b[>128!", []string{"\x01\x01", "\x00\x00", "\x06", "\x00", "\x00\x00", "\x00\x00\x00", "\x01", "\x01 \x00", "\x05>\x01\x80\x01", "\x01!", "\x00"}},
		{1, 1, "\x1b[!?", []string{"\x01\x01", "\x00\x00", "\x06", "\x00", "\x00\x00", "\x00\x00\x00", "\x01", "\x01 \x00", "\x06\x00\x00", "\x00", "\x00"}},
		{1, 1, "\x1b]0;a", []string{"\x01\x01", "\x00\x00", "\x06", "\x00", "\x00\x00", "\x00\x00\x00", "\x01", "\x01 \x00", "\x07\x00\x00", "\x00", "\x00"}},
		{1, 1, "\xf0\x9f\x98", []string{"\x01\x01", "\x00\x00", "\x06", "\x00", "\x00\x00", "\x00\x00\x00", "\x01", "\x01 \x00", "\x00\x00\x00", "\x00", "\x03\xf0\x9f\x98"}},
	} {
		s := behind(x.rows, x.cols, x.text)
		want := strings.Join(x.want, "")
		if want != wantedPut(s) {
			t.Errorf("%q: by hand %x, by the promise %x", x.text, want, wantedPut(s))
		}
		wantBytes(t, s, want)
	}
}

// TestNumbersInTheirOrder: a screen in which no number is another one's, some of them of two bytes.
func TestNumbersInTheirOrder(t *testing.T) {
	s := behind(200, 150, "")
	s.Y, s.X, s.Wrap = 131, 149, true
	s.Attr, s.SavedAttr = 0x887, 0x21
	s.Top, s.Bottom = 3, 140
	s.SavedY, s.SavedX = 7, 141
	s.P = api.Parser{Mode: api.CsiInter, Private: '=', Params: []int{9, 10000, 0}, Inter: []byte("# ")}
	head := "\xc8\x01\x96\x01" + "\x83\x01\x95\x01" + "\x07" + "\x87\x11" + "\x03\x8c\x01" + "\x07\x8d\x01" + "\x21"
	tabs := strings.Repeat("\x01\x00\x00\x00\x00\x00\x00\x00", 18) + "\x01\x00\x00\x00\x00\x00"
	parser := "\x05=\x03\x09\x90\x4e\x00" + "\x02# " + "\x00"
	blank := "\xb0\xea\x01 \x00"
	wantBytes(t, s, head+tabs+blank+parser)
	s.Alt, s.OtherY, s.OtherX = true, 199, 5
	s.Other = behind(200, 150, "xy").Cells
	head = strings.Replace(head, "\x95\x01\x07\x87", "\x95\x01\x0f\x87", 1)
	wantBytes(t, s, head+tabs+blank+"\xc7\x01\x05"+"\x01x\x00\x01y\x00\xae\xea\x01 \x00"+parser)
}

// TestBits: each of the four alone, and all of them together.
func TestBits(t *testing.T) {
	for bits := range 16 {
		s := behind(1, 2, "\x1b[2G")
		s.Wrap, s.Auto, s.Shown, s.Alt = bits&1 > 0, bits&2 > 0, bits&4 > 0, bits&8 > 0
		other := ""
		if s.Alt {
			s.Other, other = slices.Clone(s.Cells), "\x00\x00\x02 \x00"
		}
		head, rest := "\x01\x02\x00\x01", "\x00\x00\x00\x00\x00\x00\x01\x00\x02 \x00"+other+"\x00\x00\x00\x00\x00"
		wantBytes(t, s, head+string(rune(bits))+rest)
		// With more than the four, in as many bytes and in others.
		for _, more := range []uint64{16, 32, 64, 128, 1 << 8, 1 << 14, 1 << 16, 1 << 32, 1 << 62, 1 << 63} {
			wantRefused(t, head+number(uint64(bits)+more)+rest, "bits", bits, more)
		}
		for wrong := range 16 {
			if (wrong^bits)&8 != 0 {
				wantRefused(t, head+string(rune(wrong))+rest, "bits", bits, wrong)
			}
		}
	}
}

// TestParams: of how many there may be.
func TestParams(t *testing.T) {
	for n := range api.MaxParams + 1 {
		s := behind(1, 1, "")
		s.P.Mode = api.Csi
		want := ""
		for i := range n {
			s.P.Params = append(s.P.Params, i*4369)
			want += number(uint64(i * 4369))
		}
		head := "\x01\x01\x00\x00\x06\x00\x00\x00\x00\x00\x00\x01\x01 \x00\x04\x00"
		wantBytes(t, s, head+string(rune(n))+want+"\x00\x00")
		wantRefused(t, head+string(rune(n+1))+want+"\x00\x00", "one more said", n)
		if n > 0 {
			wantRefused(t, head+string(rune(n-1))+want+"\x00\x00", "one less said", n)
		}
	}
	head := "\x01\x01\x00\x00\x06\x00\x00\x00\x00\x00\x00\x01\x01 \x00\x04\x00"
	for _, n := range []int{17, 18, 100, 300} {
		wantRefused(t, head+number(uint64(n))+strings.Repeat("\x01", n)+"\x00\x00", "params", n)
	}
	for _, n := range []uint64{1 << 16, 1 << 20, 1 << 32, 1 << 32 << 8, 1 << 63, math.MaxUint64} {
		wantRefused(t, head+number(n)+"\x00\x00", "params", n)
	}
}

func TestThereAndBack(t *testing.T) {
	for _, s := range some() {
		wantRight(t, s)
	}
}

func TestThereAndBackAny(t *testing.T) {
	r := rand.New(rand.NewSource(1))
	for range 4000 {
		s := behind(1+r.Intn(5), 1+r.Intn(20), anyText(r))
		wantRight(t, s)
		size, _ := screen.Size(s, 1+r.Intn(5), 1+r.Intn(20))
		wantRight(t, size)
	}
}

func TestThereAndBackSizes(t *testing.T) {
	for _, size := range [][2]int{{1, 127}, {1, 128}, {127, 1}, {128, 1}, {24, 80}, {1, 1000}, {1000, 1}, {999, 7}, {1000, 1000}} {
		for _, text := range []string{"", strings.Repeat("ab\u6f22\r\n", 2000), "a\x1b[?1049h\x1b[999;999H\u6f22"} {
			wantRight(t, behind(size[0], size[1], text))
		}
	}
}

// TestPutRefused: each screen that screen.Right refuses, broken in one place.
func TestPutRefused(t *testing.T) {
	for name, change := range map[string]func(s *api.Screen){
		"the zero screen": func(s *api.Screen) { *s = api.Screen{} },
		"no rows":         func(s *api.Screen) { s.Rows = 0 },
		"rows below 0":    func(s *api.Screen) { s.Rows = math.MinInt },
		"rows":            func(s *api.Screen) { s.Rows = 4 },
		"many rows":       func(s *api.Screen) { s.Rows = math.MaxInt },
		"cols":            func(s *api.Screen) { s.Cols = 8 },
		"cols below 0":    func(s *api.Screen) { s.Cols = -9 },
		"no cells":        func(s *api.Screen) { s.Cells = nil },
		"a cell more":     func(s *api.Screen) { s.Cells = append(s.Cells, api.Cell{R: ' '}) },
		"no rune":         func(s *api.Screen) { s.Cells[0] = api.Cell{} },
		"half a rune":     func(s *api.Screen) { s.Cells[0].Half = 1 },
		"a right half":    func(s *api.Screen) { s.Cells[0] = api.Cell{Half: 2} },
		"a cell's look":   func(s *api.Screen) { s.Cells[0].Attr = 8 },
		"row":             func(s *api.Screen) { s.Y = 3 },
		"row below 0":     func(s *api.Screen) { s.Y = -1 },
		"column":          func(s *api.Screen) { s.X, s.Wrap = 9, false },
		"column below 0":  func(s *api.Screen) { s.X, s.Wrap = -1, false },
		"wrap":            func(s *api.Screen) { s.X = 0 },
		"look":            func(s *api.Screen) { s.Attr = 0x1000 },
		"top":             func(s *api.Screen) { s.Top = 2 },
		"top below 0":     func(s *api.Screen) { s.Top = -1 },
		"bottom":          func(s *api.Screen) { s.Bottom = 3 },
		"no tabs":         func(s *api.Screen) { s.Tabs = nil },
		"a tab more":      func(s *api.Screen) { s.Tabs = append(s.Tabs, true) },
		"saved row":       func(s *api.Screen) { s.SavedY = 3 },
		"saved column":    func(s *api.Screen) { s.SavedX = -1 },
		"saved look":      func(s *api.Screen) { s.SavedAttr = 8 },
		"not Alt":         func(s *api.Screen) { s.Alt = false },
		"not Alt, a row":  func(s *api.Screen) { s.Alt, s.Other, s.OtherX = false, nil, 0 },
		"no other":        func(s *api.Screen) { s.Other = nil },
		"other's look":    func(s *api.Screen) { s.Other[26].Attr = 0x90 },
		"other's half":    func(s *api.Screen) { s.Other[26].Half = 1 },
		"other row":       func(s *api.Screen) { s.OtherY = 3 },
		"other column":    func(s *api.Screen) { s.OtherX = 9 },
		"mode":            func(s *api.Screen) { s.P.Mode = 8 },
		"mode below 0":    func(s *api.Screen) { s.P.Mode = -1 },
		"private":         func(s *api.Screen) { s.P.Private = '!' },
		"a param":         func(s *api.Screen) { s.P.Params[0] = 65536 },
		"a param below 0": func(s *api.Screen) { s.P.Params[2] = -1 },
		"many params":     func(s *api.Screen) { s.P.Params = make([]int, 17) },
		"no inter":        func(s *api.Screen) { s.P.Inter = nil },
		"inter":           func(s *api.Screen) { s.P.Inter = []byte("0") },
		"utf":             func(s *api.Screen) { s.P.Utf = []byte("\xe6") },
	} {
		s := full()
		change(&s)
		if screen.Right(s) {
			t.Fatalf("%s: Right", name)
		}
		if b, errno := Put(s); len(b) != 0 || errno != api.ErrKind {
			t.Errorf("%s: Put: %x, %d; want %d", name, b, errno, api.ErrKind)
		}
	}
}

// P10.1: Same

// TestSameField: each field alone makes another screen, whichever fields package api gives a screen.
func TestSameField(t *testing.T) {
	if s := full(); !s.Alt || !s.Wrap || s.Auto != true || s.Shown || len(s.P.Params) != 3 || len(s.P.Inter) != 1 || s.SavedX != 4 || s.OtherX != 8 {
		t.Fatalf("not full: %+v", s)
	}
	at := func(s *api.Screen, list, i int) reflect.Value {
		return reflect.ValueOf([]any{s, &s.P}[list]).Elem().Field(i)
	}
	for list, fields := range []int{reflect.TypeFor[api.Screen]().NumField(), reflect.TypeFor[api.Parser]().NumField()} {
		for i := range fields {
			for _, other := range others(at(new(full()), list, i)) {
				a, b := full(), full()
				at(&b, list, i).Set(other)
				if alike(a, b) {
					continue
				}
				wantUnlike(t, a, b)
			}
		}
	}
}

// others: values that a field may have instead of its own, each unlike in one place alone.
func others(v reflect.Value) []reflect.Value {
	out := []reflect.Value{}
	add := func(change func(n reflect.Value)) {
		n := reflect.New(v.Type()).Elem()
		n.Set(v)
		change(n)
		out = append(out, n)
	}
	switch v.Kind() {
	case reflect.Int, reflect.Int32:
		for _, d := range []int64{1, -1, 1 << 8, 1 << 16} {
			add(func(n reflect.Value) { n.SetInt(v.Int() + d) })
		}
	case reflect.Uint8, reflect.Uint16:
		for i := range v.Type().Bits() {
			add(func(n reflect.Value) { n.SetUint(v.Uint() ^ 1<<i) })
		}
	case reflect.Bool:
		add(func(n reflect.Value) { n.SetBool(!v.Bool()) })
	case reflect.Slice:
		add(func(n reflect.Value) { n.SetZero() })
		add(func(n reflect.Value) { n.Set(reflect.Append(n, reflect.Zero(v.Type().Elem()))) })
		for i := range v.Len() {
			add(func(n reflect.Value) { n.Set(v.Slice(0, i)) })
			for _, other := range others(v.Index(i)) {
				add(func(n reflect.Value) {
					n.Set(reflect.AppendSlice(reflect.MakeSlice(v.Type(), 0, v.Len()), v))
					n.Index(i).Set(other)
				})
			}
		}
	case reflect.Struct:
		for i := range v.NumField() {
			for _, other := range others(v.Field(i)) {
				add(func(n reflect.Value) { n.Field(i).Set(other) })
			}
		}
	default:
		panic("a field of a kind that the test doesn't know: " + v.Kind().String())
	}
	return out
}

// wantUnlike: a and b aren't the Same, and where both are right neither have they the same bytes.
func wantUnlike(t *testing.T, a, b api.Screen) {
	t.Helper()
	if Same(a, b) || Same(b, a) {
		t.Fatalf("Same: %+v, %+v", a, b)
	}
	if !Same(a, clone(a)) || !Same(b, clone(b)) {
		t.Fatalf("not Same as itself: %+v, %+v", a, b)
	}
	one, errno1 := Put(a)
	two, errno2 := Put(b)
	if errno1 == api.OK && errno2 == api.OK && bytes.Equal(one, two) {
		t.Fatalf("the same bytes: %+v, %+v", a, b)
	}
}

// TestUnlikeBytes: two screens that are right and unlike in one field alone.
func TestUnlikeBytes(t *testing.T) {
	for name, change := range map[string]func(s *api.Screen){
		"Y":             func(s *api.Screen) { s.Y = 1 },
		"Wrap":          func(s *api.Screen) { s.Wrap = false },
		"Auto":          func(s *api.Screen) { s.Auto = false },
		"Shown":         func(s *api.Screen) { s.Shown = true },
		"Attr":          func(s *api.Screen) { s.Attr = 0 },
		"Top":           func(s *api.Screen) { s.Top = 0 },
		"SavedY":        func(s *api.Screen) { s.SavedY = 1 },
		"SavedX":        func(s *api.Screen) { s.SavedX = 0 },
		"SavedAttr":     func(s *api.Screen) { s.SavedAttr = 1 },
		"OtherY":        func(s *api.Screen) { s.OtherY = 0 },
		"OtherX":        func(s *api.Screen) { s.OtherX = 0 },
		"Tabs":          func(s *api.Screen) { s.Tabs[3] = true },
		"first tab":     func(s *api.Screen) { s.Tabs[0] = false },
		"a rune":        func(s *api.Screen) { s.Cells[0].R = 'z' },
		"a look":        func(s *api.Screen) { s.Cells[0].Attr = 1 },
		"an other rune": func(s *api.Screen) { s.Other[26].R = 'z' },
		"an other look": func(s *api.Screen) { s.Other[26].Attr = 1 },
		"Private":       func(s *api.Screen) { s.P.Private = 0 },
		"a param":       func(s *api.Screen) { s.P.Params[1] = 65535 },
		"params":        func(s *api.Screen) { s.P.Params = s.P.Params[:2] },
		"a param more":  func(s *api.Screen) { s.P.Params = append(s.P.Params, 0) },
		"no params":     func(s *api.Screen) { s.P.Params = nil },
		"inter":         func(s *api.Screen) { s.P.Inter[0] = '#' },
		"more inter":    func(s *api.Screen) { s.P.Inter = []byte("!!") },
	} {
		s := full()
		change(&s)
		if !screen.Right(s) || alike(s, full()) {
			t.Fatalf("%s: not another screen that is right", name)
		}
		wantUnlike(t, full(), s)
		wantRight(t, s)
	}
	ground := behind(3, 9, "")
	for _, text := range []string{"\x1b", "\x1b[", "\x1b]", "\x1b[:", "\x1b  !", "\xe6", "\xe6\xbc", "\x1b[2Gc", "\x1b[2G", "\x1b[1;2r"} {
		wantUnlike(t, ground, behind(3, 9, text))
	}
}

// TestSameOfAll: of many screens just those that are alike are the Same and have the same bytes.
func TestSameOfAll(t *testing.T) {
	all := some()
	all = append(all, behind(1, 6, ""), behind(2, 3, ""), behind(3, 2, ""), behind(6, 1, ""), api.Screen{})
	var puts []string
	for _, s := range all {
		b, _ := Put(s)
		puts = append(puts, string(b))
	}
	for i, a := range all {
		for k, b := range all {
			if want := puts[i] == puts[k]; Same(a, b) != want {
				t.Fatalf("Same(%+v, %+v): %t", a, b, !want)
			}
		}
		// The bytes hold each of them against the others; alike holds it against those beside it.
		for k := max(i-3, 0); k < i; k++ {
			if alike(a, all[k]) != (puts[i] == puts[k]) {
				t.Fatalf("the same bytes: %t: %+v, %+v", puts[i] == puts[k], a, all[k])
			}
		}
	}
}

// TestSameOfAny: screens that can't be are held against each other just as well, and lists of none are alike.
func TestSameOfAny(t *testing.T) {
	wild := api.Screen{Rows: -1, Cols: math.MaxInt, Y: math.MinInt, Cells: []api.Cell{{R: -1, Attr: 0xffff, Half: 9}}, Other: make([]api.Cell, 3), P: api.Parser{Mode: -7, Params: []int{-1}, Utf: []byte("abcdef")}}
	if !Same(wild, clone(wild)) || Same(wild, api.Screen{}) || Same(api.Screen{}, wild) {
		t.Error("Same of a screen that can't be")
	}
	empty := api.Screen{Cells: []api.Cell{}, Other: []api.Cell{}, Tabs: []bool{}, P: api.Parser{Params: []int{}, Inter: []byte{}, Utf: []byte{}}}
	if !Same(empty, api.Screen{}) || !Same(api.Screen{}, empty) || !Same(api.Screen{}, api.Screen{}) {
		t.Error("Same of nothing")
	}
	a, b := behind(2, 2, "ab"), behind(2, 2, "ab")
	b.Other, b.P.Params, b.P.Inter, b.P.Utf = []api.Cell{}, []int{}, []byte{}, []byte{}
	if !Same(a, b) || !Same(b, a) {
		t.Error("Same of empty lists")
	}
	wantBytes(t, b, wantedPut(a))
	one, two := full(), full()
	one.Other, two.Cells = nil, nil
	wantUnlike(t, one, two)
}

// P10.2

// TestNothingIsLost: a screen that was read goes on as the one that was put, wherever it was parted.
func TestNothingIsLost(t *testing.T) {
	r := rand.New(rand.NewSource(2))
	for range 600 {
		rows, cols := 1+r.Intn(4), 1+r.Intn(12)
		text := []byte(anyText(r) + "\x1b8q\x1b[?1049lz\tx\r\n\n\x1b[3;2H\u6f22")
		whole := screen.Feed(behind(rows, cols, ""), text)
		for cut := range text {
			b, errno := Put(behind(rows, cols, string(text[:cut])))
			if errno != api.OK {
				t.Fatalf("Put behind %q: %d", text[:cut], errno)
			}
			s, errno := Read(b)
			if errno != api.OK {
				t.Fatalf("Read behind %q: %d", text[:cut], errno)
			}
			if on := screen.Feed(s, text[cut:]); !alike(on, whole) {
				t.Fatalf("%d rows of %d, %q, parted at %d: %+v; want %+v", rows, cols, text, cut, on, whole)
			}
		}
	}
}

// What is handed in, and what is answered

// spare answers b with room behind it that is filled, and what tells whether that was touched.
func spare(b []byte) ([]byte, func() bool) {
	all := append(slices.Clone(b), "behind it"...)
	was := slices.Clone(all)
	return all[:len(b)], func() bool { return !bytes.Equal(all, was) }
}

// room gives each list of s spare room.
func room(s api.Screen) api.Screen {
	s = clone(s)
	s.Cells, s.Other, s.Tabs = slices.Grow(s.Cells, 9), slices.Grow(s.Other, 9), slices.Grow(s.Tabs, 9)
	s.P.Params, s.P.Inter, s.P.Utf = slices.Grow(s.P.Params, 9), slices.Grow(s.P.Inter, 9), slices.Grow(s.P.Utf, 9)
	return s
}

// spoil writes over each list of s, and the spare room behind it.
func spoil(s api.Screen) {
	for _, l := range [][]api.Cell{s.Cells, s.Other} {
		l = l[:cap(l)]
		for i := range l {
			l[i] = api.Cell{R: '#', Attr: 5}
		}
	}
	for i := range s.Tabs[:cap(s.Tabs)] {
		l := s.Tabs[:cap(s.Tabs)]
		l[i] = !l[i]
	}
	for i := range s.P.Params[:cap(s.P.Params)] {
		s.P.Params[:cap(s.P.Params)][i]++
	}
	for _, l := range [][]byte{s.P.Inter, s.P.Utf} {
		l = l[:cap(l)]
		for i := range l {
			l[i] ^= 0xff
		}
	}
}

func TestPutNewMemory(t *testing.T) {
	for _, s := range append(some(), full()) {
		was := clone(s)
		in := room(s)
		whole := in
		whole.Cells, whole.Tabs = whole.Cells[:cap(whole.Cells)], whole.Tabs[:cap(whole.Tabs)]
		before := clone(whole)
		b, _ := Put(in)
		want := slices.Clone(b)
		if !alike(in, was) || !alike(whole, before) {
			t.Fatal("Put changed what it was given")
		}
		spoil(in)
		if !bytes.Equal(b, want) {
			t.Fatal("Put's answer is what it was given")
		}
		for i := range b[:cap(b)] {
			b[:cap(b)][i] = 0xff
		}
		if again, _ := Put(s); !bytes.Equal(again, want) || !alike(s, was) {
			t.Fatal("Put answers what it answered before")
		}
	}
}

func TestReadNewMemory(t *testing.T) {
	for _, s := range append(some(), full()) {
		b, changed := spare([]byte(wantedPut(s)))
		got, _ := Read(b)
		for i := range b {
			b[i] ^= 0x55
		}
		if !alike(got, s) {
			t.Fatal("Read's answer hangs on the bytes it was given")
		}
		for i := range b {
			b[i] ^= 0x55
		}
		again, _ := Read(b)
		spoil(got)
		if changed() {
			t.Fatal("Read's answer lies in the bytes it was given")
		}
		if !alike(again, s) {
			t.Fatal("Read answers what it answered before")
		}
	}
}

// TestReadListsApart: no list of an answer reaches into another, not by its spare room either.
func TestReadListsApart(t *testing.T) {
	for name, change := range map[string]func(s *api.Screen){
		"Cells":  func(s *api.Screen) { _ = append(s.Cells, s.Cells...) },
		"Other":  func(s *api.Screen) { _ = append(s.Other, s.Other...) },
		"Tabs":   func(s *api.Screen) { _ = append(s.Tabs, true, true, true) },
		"Params": func(s *api.Screen) { _ = append(s.P.Params, 7, 7, 7, 7, 7) },
		"Inter":  func(s *api.Screen) { _ = append(s.P.Inter, "abcdef"...) },
		"Utf":    func(s *api.Screen) { _ = append(s.P.Utf, "abcdef"...) },
	} {
		for _, s := range []api.Screen{full(), behind(2, 3, "a\x1b[?1049h\xe6\xbc")} {
			got, _ := Read([]byte(wantedPut(s)))
			change(&got)
			if !alike(got, s) {
				t.Errorf("more in %s changes another list", name)
			}
		}
	}
	got, _ := Read([]byte(wantedPut(full())))
	for i := range got.Cells {
		got.Cells[i].R = 'z'
	}
	if !slices.Equal(got.Other, full().Other) {
		t.Error("the other cells are the cells")
	}
}

func TestSameChangesNothing(t *testing.T) {
	a, b := full(), full()
	if Same(a, b); !alike(a, full()) || !alike(b, full()) {
		t.Error("Same changed what it was given")
	}
}

package vt

import (
	"bytes"
	"fmt"
	"math"
	"math/rand"
	"slices"
	"strings"
	"testing"
	"unicode/utf8"

	"reprise/api"
)

// told tells acts in short: p a rune, c a control byte, e an escape, s a control sequence; each field that is not its kind's is told, too.
func told(l []api.Act) string {
	s := ""
	for _, a := range l {
		rest := a
		switch a.Kind {
		case api.Print:
			s += fmt.Sprintf("p%x ", a.R)
			rest.R = 0
		case api.Ctl:
			s += fmt.Sprintf("c%02x ", a.B)
			rest.B = 0
		case api.EscAct:
			s += fmt.Sprintf("e%q%c ", a.Inter, a.B)
			rest.Inter, rest.B = nil, 0
		case api.CsiAct:
			s += fmt.Sprintf("s%q%v%q%c ", privateOf(a), a.Params, a.Inter, a.B)
			rest.Private, rest.Params, rest.Inter, rest.B = 0, nil, nil, 0
		default:
			s += fmt.Sprintf("no kind %d ", a.Kind)
		}
		if rest.R != 0 || rest.B != 0 || rest.Private != 0 || len(rest.Params) > 0 || len(rest.Inter) > 0 {
			s += fmt.Sprintf("and more %v ", rest)
		}
	}
	return s
}

func privateOf(a api.Act) string {
	if a.Private == 0 {
		return ""
	}
	return string(rune(a.Private))
}

// state tells a parser in short.
func state(p api.Parser) string {
	return fmt.Sprintf("%d %02x %v %q %x", p.Mode, p.Private, p.Params, p.Inter, p.Utf)
}

func parser(mode int, private byte, params []int, inter, utf string) api.Parser {
	return api.Parser{Mode: mode, Private: private, Params: params, Inter: []byte(inter), Utf: []byte(utf)}
}

func clone(p api.Parser) api.Parser {
	p.Params, p.Inter, p.Utf = slices.Clone(p.Params), bytes.Clone(p.Inter), bytes.Clone(p.Utf)
	return p
}

// wantedRight: P7.1 word by word.
func wantedRight(p api.Parser) bool {
	if p.Mode < 0 || p.Mode > 7 {
		return false
	}
	if len(p.Utf) > 0 && (p.Mode != api.Ground || utf8.FullRune(p.Utf)) {
		return false
	}
	for _, b := range p.Inter {
		if b < 0x20 || b > 0x2f {
			return false
		}
	}
	for _, n := range p.Params {
		if n < 0 || n > 65535 {
			return false
		}
	}
	none := p.Private == 0 && len(p.Params) == 0
	switch p.Mode {
	case api.EscInter:
		return none && (len(p.Inter) == 1 || len(p.Inter) == 2)
	case api.Csi, api.CsiInter:
		if strings.IndexByte("\x00<=>?", p.Private) < 0 || len(p.Params) > 16 {
			return false
		}
		if p.Mode == api.Csi {
			return len(p.Inter) == 0
		}
		return len(p.Inter) == 1 || len(p.Inter) == 2
	}
	return none && len(p.Inter) == 0
}

// wantedStep: P7.2 and P7.3 word by word, the runes by the library.
func wantedStep(p api.Parser, b byte) (api.Parser, []api.Act) {
	p = clone(p)
	joined := append(bytes.Clone(p.Utf), b)
	broken := p.Mode == api.Ground && len(p.Utf) > 0 && utf8.FullRune(joined) && !utf8.Valid(joined)
	if broken {
		p.Utf = nil
		p, acts := wantedStep(p, b)
		return p, append([]api.Act{{Kind: api.Print, R: 0xfffd}}, acts...)
	}
	switch {
	case b == 0x18 || b == 0x1a:
		return api.Parser{}, nil
	case b == 0x1b:
		return api.Parser{Mode: api.Esc}, nil
	case p.Mode == api.Ground:
		switch {
		case b < 0x20:
			return p, []api.Act{{Kind: api.Ctl, B: b}}
		case b == 0x7f:
			return p, nil
		case !utf8.FullRune(joined):
			return api.Parser{Utf: joined}, nil
		}
		r, _ := utf8.DecodeRune(joined)
		return api.Parser{}, []api.Act{{Kind: api.Print, R: r}}
	case p.Mode == api.Str && b == 7:
		return api.Parser{}, nil
	case p.Mode == api.Str:
		return p, nil
	case b < 0x20:
		return p, []api.Act{{Kind: api.Ctl, B: b}}
	case b == 0x7f:
		return p, nil
	case b > 0x7f:
		return api.Parser{}, nil
	}
	return wantedInside(p, b)
}

// wantedInside: P7.3, of a byte from 0x20 to 0x7e.
func wantedInside(p api.Parser, b byte) (api.Parser, []api.Act) {
	inter := b <= 0x2f
	end := []api.Act{{Kind: api.CsiAct, Private: p.Private, Params: p.Params, Inter: p.Inter, B: b}}
	switch p.Mode {
	case api.Esc:
		if inter {
			return parser(api.EscInter, 0, nil, string(b), ""), nil
		}
		if b == '[' {
			return api.Parser{Mode: api.Csi}, nil
		}
		if strings.IndexByte("]PX^_", b) >= 0 {
			return api.Parser{Mode: api.Str}, nil
		}
		return api.Parser{}, []api.Act{{Kind: api.EscAct, B: b}}
	case api.EscInter:
		if inter && len(p.Inter) == 2 {
			return api.Parser{Mode: api.EscIgnore}, nil
		}
		if inter {
			return parser(api.EscInter, 0, nil, string(p.Inter)+string(b), ""), nil
		}
		return api.Parser{}, []api.Act{{Kind: api.EscAct, Inter: p.Inter, B: b}}
	case api.EscIgnore:
		if b >= 0x30 {
			return api.Parser{}, nil
		}
		return p, nil
	case api.Csi:
		if inter {
			return parser(api.CsiInter, p.Private, p.Params, string(b), ""), nil
		}
		if b >= 0x40 {
			return api.Parser{}, end
		}
		return wantedParams(p, b), nil
	case api.CsiInter:
		if b >= 0x40 {
			return api.Parser{}, end
		}
		if !inter || len(p.Inter) == 2 {
			return api.Parser{Mode: api.CsiIgnore}, nil
		}
		return parser(api.CsiInter, p.Private, p.Params, string(p.Inter)+string(b), ""), nil
	}
	if b >= 0x40 {
		return api.Parser{}, nil
	}
	return p, nil
}

// wantedParams: of Csi, a byte from 0x30 to 0x3f.
func wantedParams(p api.Parser, b byte) api.Parser {
	params := slices.Clone(p.Params)
	if len(params) == 0 {
		params = []int{0}
	}
	switch {
	case b <= '9':
		n := params[len(params)-1]*10 + int(b) - '0'
		if n > 65535 {
			n = 65535
		}
		params[len(params)-1] = n
		return parser(api.Csi, p.Private, params, "", "")
	case b == ';' && len(params) < 16:
		return parser(api.Csi, p.Private, append(params, 0), "", "")
	case b >= 0x3c && len(p.Params) == 0 && p.Private == 0:
		return parser(api.Csi, b, nil, "", "")
	}
	return api.Parser{Mode: api.CsiIgnore}
}

// wantedAll: wantedStep byte by byte.
func wantedAll(p api.Parser, b []byte) (api.Parser, []api.Act) {
	p = clone(p)
	var acts []api.Act
	for _, c := range b {
		var more []api.Act
		p, more = wantedStep(p, c)
		acts = append(acts, more...)
	}
	return p, acts
}

func wantSame(t *testing.T, what string, p api.Parser, acts []api.Act, wantP api.Parser, wantActs []api.Act) {
	t.Helper()
	if state(p) != state(wantP) || told(acts) != told(wantActs) {
		t.Fatalf("%s: %s, %s; want %s, %s", what, state(p), told(acts), state(wantP), told(wantActs))
	}
}

// wantStep holds Step of p and b against the promise, and All of that one byte.
func wantStep(t *testing.T, p api.Parser, b byte) {
	t.Helper()
	before := state(p)
	wantP, wantActs := wantedStep(p, b)
	got, acts := Step(p, b)
	what := fmt.Sprintf("Step of %s and %02x", before, b)
	wantSame(t, what, got, acts, wantP, wantActs)
	if !Right(got) {
		t.Fatalf("%s: %s, which isn't right", what, state(got))
	}
	if state(p) != before {
		t.Fatalf("%s: what was handed in is now %s", what, state(p))
	}
	got, acts = All(p, []byte{b})
	wantSame(t, "All: "+what, got, acts, wantP, wantActs)
}

// steps: Step byte by byte.
func steps(p api.Parser, b []byte) (api.Parser, []api.Act) {
	var acts []api.Act
	for _, c := range b {
		var more []api.Act
		p, more = Step(p, c)
		acts = append(acts, more...)
	}
	return p, acts
}

// wantAll holds All and Step byte by byte, from Ground, against what is wanted.
func wantAll(t *testing.T, s, acts, end string) {
	t.Helper()
	p, got := All(api.Parser{}, []byte(s))
	if told(got) != acts || state(p) != end {
		t.Errorf("All(%q): %s, %s; want %s, %s", s, told(got), state(p), acts, end)
	}
	p, got = steps(api.Parser{}, []byte(s))
	if told(got) != acts || state(p) != end {
		t.Errorf("Step by step %q: %s, %s; want %s, %s", s, told(got), state(p), acts, end)
	}
}

// atGround: the state in which nothing is kept.
var atGround = state(api.Parser{})

func wantActs(t *testing.T, s, acts string) {
	t.Helper()
	wantAll(t, s, acts, atGround)
}

// someParams: lists of all lengths, with the edges of what each may be.
func someParams() [][]int {
	l := [][]int{nil, {0}, {1}, {9}, {6552}, {6553}, {6554}, {65534}, {65535}, {0, 0}, {1, 0}, {65535, 1}, {31, 1, 44}}
	for _, size := range []int{14, 15, 16} {
		l = append(l, make([]int, size), slices.Repeat([]int{65535}, size))
	}
	return l
}

// beginnings: what may be pending, of one byte and two all, of three some.
func beginnings() []string {
	var out []string
	try := func(s string) {
		if !utf8.FullRuneInString(s) {
			out = append(out, s)
		}
	}
	for first := 0xc0; first < 0x100; first++ {
		try(string([]byte{byte(first)}))
		for second := 0x80; second < 0xc0; second++ {
			try(string([]byte{byte(first), byte(second)}))
			for _, third := range []byte{0x80, 0x9f, 0xbf} {
				try(string([]byte{byte(first), byte(second), third}))
			}
		}
	}
	return out
}

// insideParsers: right parsers of all modes but Ground.
func insideParsers() []api.Parser {
	var out []api.Parser
	for _, mode := range []int{api.Esc, api.EscIgnore, api.CsiIgnore, api.Str} {
		out = append(out, api.Parser{Mode: mode})
	}
	var inters []string
	for one := byte(0x20); one < 0x30; one++ {
		inters = append(inters, string(one), string(one)+"!", "/"+string(one))
	}
	for _, inter := range inters {
		out = append(out, parser(api.EscInter, 0, nil, inter, ""))
	}
	for _, private := range []byte("\x00<=>?") {
		for _, params := range someParams() {
			out = append(out, parser(api.Csi, private, params, "", ""))
			for _, inter := range []string{" ", "/", " !", "//"} {
				out = append(out, parser(api.CsiInter, private, params, inter, ""))
			}
		}
	}
	return out
}

// rightParsers: of all modes.
func rightParsers() []api.Parser {
	out := append(insideParsers(), api.Parser{})
	for _, s := range beginnings() {
		out = append(out, api.Parser{Utf: []byte(s)})
	}
	return out
}

// P7.1

func TestRightOnes(t *testing.T) {
	for _, p := range rightParsers() {
		if !Right(p) || !wantedRight(p) {
			t.Errorf("Right(%s): false", state(p))
		}
	}
	// A list that is empty is as none.
	if !Right(api.Parser{Params: []int{}, Inter: []byte{}, Utf: []byte{}}) {
		t.Error("Right of empty lists: false")
	}
}

// brokenParsers: each breaks one rule alone.
func brokenParsers() map[string]api.Parser {
	many := make([]int, 17)
	l := map[string]api.Parser{
		"a mode below 0":      {Mode: -1},
		"a mode far below 0":  {Mode: math.MinInt},
		"a mode past Str":     {Mode: 8},
		"a mode far past Str": {Mode: math.MaxInt},
		"a mode as a byte":    {Mode: 256},
		"a whole rune":        parser(api.Ground, 0, nil, "", "\xc3\xa9"),
		"a letter":            parser(api.Ground, 0, nil, "", "a"),
		"no rune's byte":      parser(api.Ground, 0, nil, "", "\x80"),
		"a byte of none":      parser(api.Ground, 0, nil, "", "\xff"),
		"not the shortest":    parser(api.Ground, 0, nil, "", "\xe0\x80"),
		"a surrogate's":       parser(api.Ground, 0, nil, "", "\xed\xa0"),
		"too great a rune's":  parser(api.Ground, 0, nil, "", "\xf4\x90"),
		"one and more":        parser(api.Ground, 0, nil, "", "\xe2\x82\xac\xe2"),
		"a param below 0":     parser(api.Csi, 0, []int{-1}, "", ""),
		"the last below 0":    parser(api.Csi, 0, []int{0, 1, -1}, "", ""),
		"a great param":       parser(api.Csi, 0, []int{65536}, "", ""),
		"the greatest param":  parser(api.Csi, 0, []int{math.MaxInt}, "", ""),
		"the least param":     parser(api.Csi, 0, []int{math.MinInt}, "", ""),
		"the first is great":  parser(api.Csi, 0, []int{65536, 0}, "", ""),
		"many params":         parser(api.Csi, 0, many, "", ""),
		"far too many params": parser(api.Csi, '?', make([]int, 1000), "", ""),
		"Csi's Inter":         parser(api.Csi, 0, nil, " ", ""),
		"Csi's Inter of two":  parser(api.Csi, 0, []int{1}, " !", ""),
		"CsiInter's great":    parser(api.CsiInter, 0, []int{65536}, " ", ""),
		"CsiInter's below 0":  parser(api.CsiInter, 0, []int{-1}, " ", ""),
		"CsiInter's many":     parser(api.CsiInter, 0, many, " ", ""),
	}
	for _, private := range []byte{1, ' ', '0', '9', ':', ';', '@', '~', 0x7f, 0x80, 0xff} {
		l[fmt.Sprintf("Csi's Private %02x", private)] = parser(api.Csi, private, nil, "", "")
		l[fmt.Sprintf("CsiInter's Private %02x", private)] = parser(api.CsiInter, private, nil, " ", "")
	}
	for _, mode := range []int{api.EscInter, api.CsiInter} {
		for _, inter := range []string{"", "   ", " \x1f", "\x1f", "0", "/0", "0/", "\x00", "\x7f", "\xa0", strings.Repeat("/", 1000)} {
			l[fmt.Sprintf("mode %d, Inter %q", mode, inter)] = parser(mode, 0, nil, inter, "")
		}
	}
	for _, mode := range []int{api.Esc, api.EscInter, api.EscIgnore, api.Csi, api.CsiInter, api.CsiIgnore, api.Str} {
		inter := ""
		if mode == api.EscInter || mode == api.CsiInter {
			inter = " "
		}
		l[fmt.Sprintf("mode %d, Utf", mode)] = parser(mode, 0, nil, inter, "\xc3")
	}
	for _, mode := range []int{api.Ground, api.Esc, api.EscIgnore, api.CsiIgnore, api.Str} {
		l[fmt.Sprintf("mode %d, Private", mode)] = parser(mode, '?', nil, "", "")
		l[fmt.Sprintf("mode %d, Params", mode)] = parser(mode, 0, []int{0}, "", "")
		l[fmt.Sprintf("mode %d, Inter", mode)] = parser(mode, 0, nil, " ", "")
	}
	l["EscInter, Private"] = parser(api.EscInter, '?', nil, " ", "")
	l["EscInter, Params"] = parser(api.EscInter, 0, []int{0}, " ", "")
	return l
}

func TestRightRefuses(t *testing.T) {
	for what, p := range brokenParsers() {
		if Right(p) || wantedRight(p) {
			t.Errorf("Right of one with %s: true", what)
		}
	}
}

func TestRightByEachField(t *testing.T) {
	params := append(someParams(), []int{-1}, []int{65536}, []int{0, 65536}, make([]int, 17))
	inters := []string{"", " ", "/", " /", "   ", "0", "\x1f", " 0"}
	for mode := -2; mode < 11; mode++ {
		for private := range 256 {
			for _, inter := range inters {
				for _, utf := range []string{"", "\xc3", "\xf0\x9f\x98", "a", "\xc3\xa9"} {
					for _, l := range params {
						p := parser(mode, byte(private), l, inter, utf)
						if got := Right(p); got != wantedRight(p) {
							t.Fatalf("Right(%s): %v", state(p), got)
						}
					}
				}
			}
		}
	}
}

func TestWrongOnesEnd(t *testing.T) {
	all := make([]byte, 256)
	for i := range all {
		all[i] = byte(i)
	}
	for _, p := range brokenParsers() {
		for b := range 256 {
			Step(p, byte(b))
		}
		All(p, nil)
		All(p, all)
		All(p, []byte(strings.Repeat("9;", 100)+"m"))
		All(p, bytes.Repeat([]byte(" "), 100))
	}
}

// P7.2

func TestText(t *testing.T) {
	wantActs(t, "", "")
	wantActs(t, "ab", "p61 p62 ")
	wantActs(t, "a\r\nb", "p61 c0d c0a p62 ")
	wantActs(t, "\x00\x07\x08\x1f ~", "c00 c07 c08 c1f p20 p7e ")
	wantActs(t, "a\x7fb", "p61 p62 ")
	wantActs(t, "a\x18b\x1ac", "p61 p62 p63 ")
	wantActs(t, "\u00e9\u6f22\U0001f600\ufffd", "pe9 p6f22 p1f600 pfffd ")
	wantActs(t, "\x80\xbf\xc0\xc1\xf5\xff", "pfffd pfffd pfffd pfffd pfffd pfffd ")
	// A byte above 0x7f is no control byte of its own.
	wantActs(t, "\x9b1m", "pfffd p31 p6d ")
	wantActs(t, "\xc2\x9b1m", "p9b p31 p6d ")
	wantActs(t, "a\x1b[1;31mred\x1b[m.", `p61 s""[1 31]""m p72 p65 p64 s""[]""m p2e `)
	wantActs(t, "\x1b[31m", `s""[31]""m `)
}

func TestPending(t *testing.T) {
	for s, acts := range map[string]string{
		// It goes on.
		"\xc3\xa9": "pe9 ", "\xe2\x82\xac": "p20ac ", "\xf0\x9f\x98\x80": "p1f600 ", "\xef\xbf\xbd": "pfffd ",
		// A letter, a control byte, a byte that is nothing, the ends of sequences, an escape.
		"\xc3a": "pfffd p61 ", "\xe2\x82a": "pfffd p61 ", "\xf0\x9f\x98a": "pfffd p61 ",
		"\xc3\n": "pfffd c0a ", "\xe2\x82\n": "pfffd c0a ", "\xf0\x9f\x98\n": "pfffd c0a ",
		"\xc3\x7f": "pfffd ", "\xe2\x82\x7f": "pfffd ", "\xf0\x9f\x98\x7f": "pfffd ",
		"\xc3\x18": "pfffd ", "\xe2\x82\x18": "pfffd ", "\xf0\x9f\x98\x18": "pfffd ",
		"\xc3\x1a": "pfffd ", "\xe2\x82\x1a": "pfffd ", "\xf0\x9f\x98\x1a": "pfffd ",
		"\xc3\x1bc": `pfffd e""c `, "\xe2\x82\x1bc": `pfffd e""c `, "\xf0\x9f\x98\x1bc": `pfffd e""c `,
		// What breaks it off is none, too, or begins another one.
		"\xc3\xff": "pfffd pfffd ", "\xe2\x82\xff": "pfffd pfffd ", "\xf0\x9f\x98\xff": "pfffd pfffd ",
		"\xe0\x80": "pfffd pfffd ", "\xed\xa0\x80": "pfffd pfffd pfffd ", "\xf4\x90": "pfffd pfffd ",
		"\xc3\xc3\xa9": "pfffd pe9 ", "\xe2\x82\xe2\x82\xac": "pfffd p20ac ", "\xf0\x9f\x98\xc3\xa9": "pfffd pe9 ",
	} {
		wantActs(t, s, acts)
	}
	wantAll(t, "a\xc3", "p61 ", state(api.Parser{Utf: []byte("\xc3")}))
	wantAll(t, "\xe2\x82", "", state(api.Parser{Utf: []byte("\xe2\x82")}))
	wantAll(t, "\xf0\x9f\x98", "", state(api.Parser{Utf: []byte("\xf0\x9f\x98")}))
	wantAll(t, "\xc3\xe2", "pfffd ", state(api.Parser{Utf: []byte("\xe2")}))
	wantAll(t, "\xc3\x1b", "pfffd ", state(api.Parser{Mode: api.Esc}))
}

func TestEachPendingAndByte(t *testing.T) {
	for _, s := range beginnings() {
		for b := range 256 {
			wantStep(t, api.Parser{Utf: []byte(s)}, byte(b))
		}
	}
}

// span: bytes from the first to the last one, the mode behind them, and of what kinds the acts are (as told has them).
type span struct {
	first, last byte
	mode        int
	acts        string
}

// spansOf: what each mode makes of each byte, written out by hand.
func spansOf() map[string][]span {
	const ground, esc, escInter, escIgnore = api.Ground, api.Esc, api.EscInter, api.EscIgnore
	const csi, csiInter, csiIgnore, str = api.Csi, api.CsiInter, api.CsiIgnore, api.Str
	low := func(mode int) []span {
		return []span{{0, 0x17, mode, "c"}, {0x18, 0x18, ground, ""}, {0x19, 0x19, mode, "c"}, {0x1a, 0x1a, ground, ""}, {0x1b, 0x1b, esc, ""}, {0x1c, 0x1f, mode, "c"}}
	}
	high := func(mode int) []span {
		return []span{{0x7f, 0x7f, mode, ""}, {0x80, 0xff, ground, ""}}
	}
	inside := func(mode int, middle ...span) []span {
		return slices.Concat(low(mode), middle, high(mode))
	}
	return map[string][]span{
		"": append(low(ground), span{0x20, 0x7e, ground, "p"}, span{0x7f, 0x7f, ground, ""}, span{0x80, 0xc1, ground, "p"}, span{0xc2, 0xf4, ground, ""}, span{0xf5, 0xff, ground, "p"}),
		"\x1b": inside(esc, span{0x20, 0x2f, escInter, ""}, span{'0', 'O', ground, "e"}, span{'P', 'P', str, ""}, span{'Q', 'W', ground, "e"}, span{'X', 'X', str, ""},
			span{'Y', 'Z', ground, "e"}, span{'[', '[', csi, ""}, span{'\\', '\\', ground, "e"}, span{']', '_', str, ""}, span{'`', '~', ground, "e"}),
		"\x1b#":          inside(escInter, span{0x20, 0x2f, escInter, ""}, span{0x30, 0x7e, ground, "e"}),
		"\x1b##":         inside(escInter, span{0x20, 0x2f, escIgnore, ""}, span{0x30, 0x7e, ground, "e"}),
		"\x1b###":        inside(escIgnore, span{0x20, 0x2f, escIgnore, ""}, span{0x30, 0x7e, ground, ""}),
		"\x1b[":          inside(csi, span{0x20, 0x2f, csiInter, ""}, span{'0', '9', csi, ""}, span{':', ':', csiIgnore, ""}, span{';', '?', csi, ""}, span{0x40, 0x7e, ground, "s"}),
		"\x1b[5":         inside(csi, span{0x20, 0x2f, csiInter, ""}, span{'0', '9', csi, ""}, span{':', ':', csiIgnore, ""}, span{';', ';', csi, ""}, span{'<', '?', csiIgnore, ""}, span{0x40, 0x7e, ground, "s"}),
		"\x1b[?":         inside(csi, span{0x20, 0x2f, csiInter, ""}, span{'0', '9', csi, ""}, span{':', ':', csiIgnore, ""}, span{';', ';', csi, ""}, span{'<', '?', csiIgnore, ""}, span{0x40, 0x7e, ground, "s"}),
		fifteen + "16":   inside(csi, span{0x20, 0x2f, csiInter, ""}, span{'0', '9', csi, ""}, span{':', '?', csiIgnore, ""}, span{0x40, 0x7e, ground, "s"}),
		"\x1b[5 ":        inside(csiInter, span{0x20, 0x2f, csiInter, ""}, span{0x30, 0x3f, csiIgnore, ""}, span{0x40, 0x7e, ground, "s"}),
		"\x1b[?5 !":      inside(csiInter, span{0x20, 0x3f, csiIgnore, ""}, span{0x40, 0x7e, ground, "s"}),
		"\x1b[:":         inside(csiIgnore, span{0x20, 0x3f, csiIgnore, ""}, span{0x40, 0x7e, ground, ""}),
		"\x1b]0;title":   {{0, 6, str, ""}, {7, 7, ground, ""}, {8, 0x17, str, ""}, {0x18, 0x18, ground, ""}, {0x19, 0x19, str, ""}, {0x1a, 0x1a, ground, ""}, {0x1b, 0x1b, esc, ""}, {0x1c, 0xff, str, ""}},
		"\x1bPq\x80\xff": {{0, 6, str, ""}, {7, 7, ground, ""}, {8, 0x17, str, ""}, {0x18, 0x18, ground, ""}, {0x19, 0x19, str, ""}, {0x1a, 0x1a, ground, ""}, {0x1b, 0x1b, esc, ""}, {0x1c, 0xff, str, ""}},
	}
}

// fifteen: a control sequence that has room for one of Params more.
const fifteen = "\x1b[1;2;3;4;5;6;7;8;9;10;11;12;13;14;15;"

func TestEachModeAtEachByte(t *testing.T) {
	for s, spans := range spansOf() {
		from, _ := All(api.Parser{}, []byte(s))
		next := 0
		for _, x := range spans {
			if int(x.first) != next {
				t.Fatalf("behind %q the spans leave out %02x", s, next)
			}
			next = int(x.last) + 1
			for b := int(x.first); b < next; b++ {
				p, acts := Step(from, byte(b))
				kinds := ""
				for _, word := range strings.Fields(told(acts)) {
					kinds += word[:1]
				}
				// An act that has several Params is told in several words.
				if p.Mode != x.mode || !strings.HasPrefix(kinds, x.acts) || (x.acts == "") != (kinds == "") || len(acts) > 1 {
					t.Errorf("behind %q, %02x: mode %d, %s; want mode %d, %s", s, b, p.Mode, told(acts), x.mode, x.acts)
				}
			}
		}
		if next != 256 {
			t.Fatalf("behind %q the spans end at %02x", s, next)
		}
	}
}

func TestEachParserAndByte(t *testing.T) {
	for _, p := range append(insideParsers(), api.Parser{}) {
		for b := range 256 {
			wantStep(t, p, byte(b))
		}
	}
}

func TestCtlWithinKeepsTheMode(t *testing.T) {
	for _, p := range insideParsers() {
		if p.Mode == api.Str {
			continue
		}
		for b := byte(0); b < 0x20; b++ {
			if b == 0x18 || b == 0x1a || b == 0x1b {
				continue
			}
			got, acts := Step(p, b)
			if state(got) != state(p) || told(acts) != fmt.Sprintf("c%02x ", b) {
				t.Fatalf("Step of %s and %02x: %s, %s", state(p), b, state(got), told(acts))
			}
		}
	}
	wantActs(t, "\x1b\n7", `c0a e""7 `)
	wantActs(t, "\x1b(\nB", `c0a e"("B `)
	wantActs(t, "\x1b(!\"\nB", `c0a `)
	wantActs(t, "\x1b\n[\r1\x082\x07;\x003\tm", `c0a c0d c08 c07 c00 c09 s""[12 3]""m `)
	wantActs(t, "\x1b[?2\n5 \rh", `c0a c0d s"?"[25]" "h `)
	wantActs(t, "\x1b[:\n1mx", `c0a p78 `)
}

func TestNothingInAnyMode(t *testing.T) {
	for _, p := range insideParsers() {
		if got, acts := Step(p, 0x7f); state(got) != state(p) || len(acts) > 0 {
			t.Fatalf("Step of %s and 7f: %s, %s", state(p), state(got), told(acts))
		}
	}
	wantActs(t, "\x1b\x7f[\x7f?\x7f2\x7f5\x7f!\x7fh", `s"?"[25]"!"h `)
	wantActs(t, "\x1b(\x7fB", `e"("B `)
}

func TestAboveEndsAnyMode(t *testing.T) {
	for _, p := range insideParsers() {
		for b := 0x80; b < 0x100; b++ {
			got, acts := Step(p, byte(b))
			want := atGround
			if p.Mode == api.Str {
				want = state(p)
			}
			if state(got) != want || len(acts) > 0 {
				t.Fatalf("Step of %s and %02x: %s, %s", state(p), b, state(got), told(acts))
			}
		}
	}
	// The byte that ends it is gone; those behind it are text.
	wantActs(t, "\x1b[1\xc3\xa9m", "pfffd p6d ")
	wantActs(t, "\x1b\xe2\x82\xac", "pfffd pfffd ")
	wantActs(t, "\x1b(\xffB", "p42 ")
	wantActs(t, "\x1b[1:\x80m", "p6d ")
}

func TestCancelAndEscapeAnywhere(t *testing.T) {
	for _, p := range rightParsers() {
		acts := ""
		if len(p.Utf) > 0 {
			acts = "pfffd "
		}
		for b, want := range map[byte]string{0x18: atGround, 0x1a: atGround, 0x1b: state(api.Parser{Mode: api.Esc})} {
			if got, l := Step(p, b); state(got) != want || told(l) != acts {
				t.Fatalf("Step of %s and %02x: %s, %s", state(p), b, state(got), told(l))
			}
		}
	}
	wantActs(t, "\x1b[1\x18m\x1b[2\x1am\x1b\x18c\x1b(\x1aB", "p6d p6d p63 p42 ")
	wantActs(t, "\x1b[?1\x1b[2m", `s""[2]""m `)
	wantActs(t, "\x1b(\x1b)B", `e")"B `)
	wantActs(t, "\x1b\x1b\x1b7", `e""7 `)
}

func TestStrings(t *testing.T) {
	for _, begin := range []string{"]", "P", "X", "^", "_"} {
		for body, acts := range map[string]string{
			"\x07": "", "title\x07": "", "0;title\x07ab": "p61 p62 ",
			"a\x1b\\b": `e""\ p62 `, "a\x18b": "p62 ", "a\x1ab": "p62 ", "\x1b[1mb": `s""[1]""m p62 `,
			"a\nb\r\x7f\x9c\xff\u00e9[1m\x00\x1f\x07c": "p63 ",
			// What is pending within a string is none of it.
			"a\xe2\x82\x07b": "p62 ", "a\xc3\x18\xa9": "pfffd ",
		} {
			wantActs(t, "\x1b"+begin+body, acts)
		}
		for _, body := range []string{"", "0;title", "\x1b_", "\n\r\x7f\x80", "\xe2\x82", strings.Repeat("never ends ", 10000)} {
			wantAll(t, "\x1b"+begin+body, "", state(api.Parser{Mode: api.Str}))
		}
	}
	// In all other modes 0x07 ends nothing.
	wantActs(t, "\x1b[1\x07m", `c07 s""[1]""m `)
}

// P7.3

func TestEscapes(t *testing.T) {
	for b := 0x30; b < 0x7f; b++ {
		if strings.IndexByte("[]PX^_", byte(b)) < 0 {
			wantActs(t, "\x1b"+string(rune(b))+"x", fmt.Sprintf(`e""%c p78 `, b))
		}
		// Behind Inter there is no byte that begins something else.
		wantActs(t, "\x1b("+string(rune(b))+"x", fmt.Sprintf(`e"("%c p78 `, b))
		wantActs(t, "\x1b !"+string(rune(b))+"x", fmt.Sprintf(`e" !"%c p78 `, b))
		wantActs(t, "\x1b !("+string(rune(b))+"x", "p78 ")
		wantActs(t, "\x1b !(//  "+string(rune(b))+"x", "p78 ")
	}
	wantAll(t, "\x1b(", "", state(parser(api.EscInter, 0, nil, "(", "")))
	wantAll(t, "\x1b(!", "", state(parser(api.EscInter, 0, nil, "(!", "")))
	wantAll(t, "\x1b(!\"", "", state(api.Parser{Mode: api.EscIgnore}))
	wantAll(t, "\x1b(!\"#", "", state(api.Parser{Mode: api.EscIgnore}))
}

func TestControlSequences(t *testing.T) {
	for b := 0x40; b < 0x7f; b++ {
		last := string(rune(b))
		wantActs(t, "\x1b["+last+"x", fmt.Sprintf(`s""[]""%c p78 `, b))
		wantActs(t, "\x1b[?25"+last+"x", fmt.Sprintf(`s"?"[25]""%c p78 `, b))
		wantActs(t, "\x1b[>1;2 !"+last+"x", fmt.Sprintf(`s">"[1 2]" !"%c p78 `, b))
		wantActs(t, "\x1b[:"+last+"x", "p78 ")
	}
	// One behind another, each begins anew.
	wantActs(t, "\x1b[1;2m\x1b[m\x1b[?3!p\x1b[q", `s""[1 2]""m s""[]""m s"?"[3]"!"p s""[]""q `)
}

func TestDigits(t *testing.T) {
	for s, want := range map[string]string{
		"": "[]", "0": "[0]", "7": "[7]", "00": "[0]", "007": "[7]", "10": "[10]",
		"6553": "[6553]", "6554": "[6554]", "65534": "[65534]", "65535": "[65535]", "65536": "[65535]", "65540": "[65535]", "99999": "[65535]", "655350": "[65535]",
		"4294967296": "[65535]", "4294967297": "[65535]", "18446744073709551616": "[65535]", "18446744073709551617": "[65535]",
		strings.Repeat("9", 100000): "[65535]", strings.Repeat("0", 100000) + "42": "[42]", "65535" + strings.Repeat("0", 100000): "[65535]",
		"99999;7": "[65535 7]", "7;99999": "[7 65535]", "1;2;3": "[1 2 3]", "0;00;000": "[0 0 0]",
	} {
		wantActs(t, "\x1b["+s+"m", `s""`+want+`""m `)
		wantActs(t, "\x1b[?"+s+"h", `s"?"`+want+`""h `)
		wantActs(t, "\x1b["+s+" q", `s""`+want+`" "q `)
	}
	for s, want := range map[string]string{"": "[]", "4": "[4]", "65535": "[65535]", "65536": "[65535]", "1;": "[1 0]", ";": "[0 0]", "1;2": "[1 2]"} {
		p, _ := All(api.Parser{}, []byte("\x1b["+s))
		if got := fmt.Sprint(p.Params); got != want || p.Mode != api.Csi {
			t.Errorf("behind ESC [ %s: %s", s, state(p))
		}
	}
}

func TestSemicolons(t *testing.T) {
	for s, want := range map[string]string{
		";": "[0 0]", ";;": "[0 0 0]", ";;;": "[0 0 0 0]", "1;": "[1 0]", "1;;": "[1 0 0]", ";1": "[0 1]", ";;1": "[0 0 1]", "1;2": "[1 2]", "1;;2": "[1 0 2]", ";1;": "[0 1 0]", "0;": "[0 0]",
	} {
		wantActs(t, "\x1b["+s+"H", `s""`+want+`""H `)
		wantActs(t, "\x1b[="+s+"H", `s"="`+want+`""H `)
	}
}

func TestManyParams(t *testing.T) {
	sixteen := "[1 2 3 4 5 6 7 8 9 10 11 12 13 14 15 16]"
	wantActs(t, fifteen+"mx", `s""[1 2 3 4 5 6 7 8 9 10 11 12 13 14 15 0]""m p78 `)
	wantActs(t, fifteen+"16mx", `s""`+sixteen+`""m p78 `)
	wantActs(t, fifteen+"16 !mx", `s""`+sixteen+`" !"m p78 `)
	wantActs(t, fifteen+"16;mx", "p78 ")
	wantActs(t, fifteen+"16;17mx", "p78 ")
	wantActs(t, fifteen+";mx", "p78 ")
	noughts := "[0" + strings.Repeat(" 0", 15) + "]"
	wantActs(t, "\x1b["+strings.Repeat(";", 15)+"mx", `s""`+noughts+`""m p78 `)
	wantActs(t, "\x1b["+strings.Repeat(";", 16)+"mx", "p78 ")
	wantActs(t, "\x1b["+strings.Repeat(";", 100000)+"mx", "p78 ")
	wantAll(t, fifteen, "", state(parser(api.Csi, 0, []int{1, 2, 3, 4, 5, 6, 7, 8, 9, 10, 11, 12, 13, 14, 15, 0}, "", "")))
	wantAll(t, fifteen+";", "", state(api.Parser{Mode: api.CsiIgnore}))
	wantAll(t, "\x1b[?"+strings.Repeat(";", 16), "", state(api.Parser{Mode: api.CsiIgnore}))
}

func TestPrivate(t *testing.T) {
	for _, b := range "<=>?" {
		private := string(b)
		wantAll(t, "\x1b["+private, "", state(parser(api.Csi, byte(b), nil, "", "")))
		wantActs(t, "\x1b["+private+"cx", fmt.Sprintf(`s"%c"[]""c p78 `, b))
		wantActs(t, "\x1b["+private+"1;2 cx", fmt.Sprintf(`s"%c"[1 2]" "c p78 `, b))
		for _, other := range "<=>?" {
			// Twice, behind a digit, behind ';', behind both.
			for _, s := range []string{private + string(other), private + "1" + string(other), "1" + string(other), ";" + string(other), "1;" + string(other), private + ";" + string(other), " " + string(other), private + " " + string(other)} {
				wantAll(t, "\x1b["+s, "", state(api.Parser{Mode: api.CsiIgnore}))
				wantActs(t, "\x1b["+s+"1;2 hx", "p78 ")
			}
		}
	}
}

func TestColons(t *testing.T) {
	for _, s := range []string{":", "4:", "4:3", "4:3;1", "?:", ";:", "38:2::1:2:3", " :", "? :"} {
		wantActs(t, "\x1b["+s+"mx", "p78 ")
		wantActs(t, "\x1b["+s+"?0;9:/~x", "p78 ")
	}
	wantAll(t, "\x1b[?1:", "", state(api.Parser{Mode: api.CsiIgnore}))
}

func TestInterOfControlSequences(t *testing.T) {
	for b := byte(0x20); b < 0x30; b++ {
		one := string(b)
		wantAll(t, "\x1b["+one, "", state(parser(api.CsiInter, 0, nil, one, "")))
		wantAll(t, "\x1b[?1;2"+one, "", state(parser(api.CsiInter, '?', []int{1, 2}, one, "")))
		wantAll(t, "\x1b[?1;2"+one+"!", "", state(parser(api.CsiInter, '?', []int{1, 2}, one+"!", "")))
		wantAll(t, "\x1b[?1;2!/"+one, "", state(api.Parser{Mode: api.CsiIgnore}))
		wantActs(t, "\x1b[?1;2!/"+one+"mx", "p78 ")
	}
	// Behind Inter there are no digits, no more Params, no Private.
	for b := byte(0x30); b < 0x40; b++ {
		for _, ahead := range []string{"\x1b[ ", "\x1b[?1; ", "\x1b[ !"} {
			wantAll(t, ahead+string(b), "", state(api.Parser{Mode: api.CsiIgnore}))
			wantActs(t, ahead+string(b)+"px", "p78 ")
		}
	}
}

func TestWhatIsLeftIsNotKept(t *testing.T) {
	for _, p := range insideParsers() {
		for b := range 256 {
			got, _ := Step(p, byte(b))
			if got.Mode != p.Mode && got.Mode != api.CsiInter && (got.Private != 0 || len(got.Params)+len(got.Utf) > 0) {
				t.Fatalf("Step of %s and %02x keeps %s", state(p), b, state(got))
			}
			if got.Mode == api.Ground && state(got) != atGround {
				t.Fatalf("Step of %s and %02x keeps %s", state(p), b, state(got))
			}
		}
	}
}

func TestAllOfNothing(t *testing.T) {
	for _, p := range rightParsers() {
		for _, b := range [][]byte{nil, {}} {
			if got, acts := All(p, b); state(got) != state(p) || len(acts) > 0 {
				t.Fatalf("All of %s and nothing: %s, %s", state(p), state(got), told(acts))
			}
		}
	}
}

// garbage: bytes of which many begin, go on with and end sequences.
func garbage(r *rand.Rand, most int) []byte {
	var out []byte
	parts := []string{"\x1b", "\x1b[", "\x1b[?", "\x1b]", "\x1bP", ";", ":", "?", "0", "9", "65535", " ", "!", "/", "m", "~", "\x07", "\x18", "\x1a", "\n", "\x7f", "\x80", "\u00e9", "\xe2\x82", "\xf0\x9f\x98", "\x1b\\", "a"}
	for range r.Intn(most + 1) {
		if r.Intn(4) == 0 {
			out = append(out, byte(r.Intn(256)))
		} else {
			out = append(out, parts[r.Intn(len(parts))]...)
		}
	}
	return out
}

// wantParted holds All of b against the promise, and All of both parts of it against All of the whole.
func wantParted(t *testing.T, b []byte, at int) {
	t.Helper()
	wantP, wantActs := wantedAll(api.Parser{}, b)
	p, acts := All(api.Parser{}, b)
	wantSame(t, fmt.Sprintf("All(%q)", b), p, acts, wantP, wantActs)
	p, acts = All(api.Parser{}, b[:at])
	p, more := All(p, b[at:])
	wantSame(t, fmt.Sprintf("All(%q) parted at %d", b, at), p, append(acts, more...), wantP, wantActs)
	p, acts = steps(api.Parser{}, b)
	wantSame(t, fmt.Sprintf("Step by step %q", b), p, acts, wantP, wantActs)
}

func TestAllIsStepByStep(t *testing.T) {
	r := rand.New(rand.NewSource(1))
	for range 10000 {
		b := garbage(r, 40)
		wantParted(t, b, r.Intn(len(b)+1))
	}
	for range 200 {
		b := garbage(r, 40)
		for at := range len(b) + 1 {
			wantParted(t, b, at)
		}
	}
}

func TestAllFromEachParser(t *testing.T) {
	r := rand.New(rand.NewSource(2))
	for _, p := range rightParsers() {
		for range 5 {
			b := garbage(r, 12)
			wantP, wantActs := wantedAll(p, b)
			got, acts := All(p, b)
			wantSame(t, fmt.Sprintf("All of %s and %q", state(p), b), got, acts, wantP, wantActs)
		}
	}
}

func FuzzAll(f *testing.F) {
	f.Add([]byte("a\x1b[1;31mred\x1b[m\r\n"), 4)
	f.Add([]byte("\xe2\x82\x1b]0;title\x07\x1b[?1049h\x1b(B"), 2)
	f.Add([]byte(fifteen+"16;17 !\"m\x1b[4:3m"), 9)
	f.Fuzz(func(t *testing.T, b []byte, at int) {
		wantParted(t, b, min(max(at, 0), len(b)))
	})
}

// P7.4

func TestGarbageEnds(t *testing.T) {
	for _, p := range insideParsers() {
		end := byte('~')
		if p.Mode == api.Str {
			end = 0x07
		}
		if got, _ := Step(p, end); state(got) != atGround {
			t.Fatalf("Step of %s and %02x: %s", state(p), end, state(got))
		}
	}
	r := rand.New(rand.NewSource(3))
	for range 3000 {
		b := garbage(r, 60)
		p, acts := All(api.Parser{}, b)
		for _, end := range []string{"\x18", "\x1a", "\x1b[0m"} {
			got, more := All(p, []byte(end+"ok"))
			if said := told(more); state(got) != atGround || !strings.HasSuffix(said, "p6f p6b ") {
				t.Fatalf("behind %q, %q: %s, %s", b, end, state(got), said)
			}
		}
		if len(acts) > len(b) {
			t.Fatalf("%q: %d acts", b, len(acts))
		}
	}
}

func TestGarbageStaysSmall(t *testing.T) {
	for _, s := range []string{"0", "9", ";", "1;", " ", "!/", "?", ":", "\x1b", "\x1b[", "\x1b(", "\x1b]", "\x7f", "\xf0", "\xf0\x9f\x98"} {
		for _, ahead := range []string{"", "\x1b", "\x1b[", "\x1b[?1;", "\x1b[ ", "\x1b(", "\x1b]"} {
			p := api.Parser{}
			for _, b := range []byte(ahead + strings.Repeat(s, 200)) {
				if p, _ = Step(p, b); !Right(p) || len(p.Params) > 16 || len(p.Inter) > 2 || len(p.Utf) > 3 {
					t.Fatalf("%q and many %q: %s", ahead, s, state(p))
				}
			}
		}
	}
	r := rand.New(rand.NewSource(4))
	p := api.Parser{}
	for range 200000 {
		if p, _ = Step(p, byte(r.Intn(256))); !Right(p) || len(p.Params) > 16 || len(p.Inter) > 2 || len(p.Utf) > 3 {
			t.Fatalf("any bytes: %s", state(p))
		}
	}
}

// What holds everywhere

// roomy answers p in lists that have spare room behind them, and these with their room.
func roomy(p api.Parser) (api.Parser, []int, []byte, []byte) {
	params := append(slices.Clone(p.Params), 7, 7, 7, 7)
	inter := append(bytes.Clone(p.Inter), "room"...)
	utf := append(bytes.Clone(p.Utf), "room"...)
	p.Params, p.Inter, p.Utf = params[:len(p.Params)], inter[:len(p.Inter)], utf[:len(p.Utf)]
	return p, params, inter, utf
}

// spoil writes over all memory of an answer.
func spoil(p api.Parser, acts []api.Act) {
	for _, a := range acts {
		fill(a.Params, 99)
		fill(a.Inter, 'S')
	}
	fill(p.Params, 99)
	fill(p.Inter, 'S')
	fill(p.Utf, 'S')
}

func fill[T any](l []T, x T) {
	l = l[:cap(l)]
	for i := range l {
		l[i] = x
	}
}

// wantOwn holds what a call does to what it is handed in, and the other way round.
func wantOwn(t *testing.T, what string, from api.Parser, call func(api.Parser) (api.Parser, []api.Act)) {
	t.Helper()
	p, params, inter, utf := roomy(from)
	before := fmt.Sprint(p, params, inter, utf)
	got, acts := call(p)
	want := state(got) + told(acts)
	again, moreActs := call(p)
	if state(again)+told(moreActs) != want {
		t.Fatalf("%s of %s: the first time %s, then %s%s", what, state(from), want, state(again), told(moreActs))
	}
	spoil(again, moreActs)
	if fmt.Sprint(p, params, inter, utf) != before {
		t.Fatalf("%s of %s: what was handed in is now %v, %v, %q, %q", what, state(from), p, params, inter, utf)
	}
	fill(params, 99)
	fill(inter, 'S')
	fill(utf, 'S')
	if state(got)+told(acts) != want {
		t.Fatalf("%s of %s: what was answered is now %s, %s; it was %s", what, state(from), state(got), told(acts), want)
	}
}

func TestHandedInIsNeitherChangedNorKept(t *testing.T) {
	for _, p := range append(insideParsers(), api.Parser{}, api.Parser{Utf: []byte("\xc3")}, api.Parser{Utf: []byte("\xe2\x82")}, api.Parser{Utf: []byte("\xf0\x9f\x98")}) {
		for b := range 256 {
			wantOwn(t, fmt.Sprintf("Step %02x", b), p, func(p api.Parser) (api.Parser, []api.Act) { return Step(p, byte(b)) })
		}
		for _, s := range []string{"", "5", ";", "5;6", " ", "!p", "5\n;m\x1b[1m", "\x80\x80\x80", "\x18\x1b[?1;2 p\x1b(B\xe2"} {
			wantOwn(t, fmt.Sprintf("All %q", s), p, func(p api.Parser) (api.Parser, []api.Act) { return All(p, []byte(s)) })
		}
	}
}

func TestBytesAreNeitherChangedNorKept(t *testing.T) {
	for _, s := range []string{"\x1b[?1;2 !p\x1b(BA\u00e9\n", "ab\xe2\x82", "\x1b(!", "\x1b[?1;2 !", "\x1b[<"} {
		room := []byte(s + "spare room")
		before := bytes.Clone(room)
		p, acts := All(api.Parser{}, room[:len(s)])
		want := state(p) + told(acts)
		if !bytes.Equal(room, before) {
			t.Errorf("All(%q): what was handed in is now %q", s, room)
		}
		fill(room, 'S')
		if got := state(p) + told(acts); got != want {
			t.Errorf("All(%q): what was answered is now %s; it was %s", s, got, want)
		}
		p, acts = All(api.Parser{}, before[:len(s)])
		spoil(p, acts)
		if string(before) != s+"spare room" {
			t.Errorf("All(%q): what was handed in is now %q", s, before)
		}
	}
}

// TestActsShareNothing: no two lists of one answer have memory in common.
func TestActsShareNothing(t *testing.T) {
	s := []byte("3m\x1b[1;2 q\x1b[1;2 q\x1b(!B\x1b(!B\x1b[?5;6!")
	from := parser(api.Csi, '?', []int{1, 2}, "", "")
	_, whole := All(from, s)
	if len(whole) != 5 {
		t.Fatalf("All: %s", told(whole))
	}
	for i := range len(whole) + 1 {
		p, acts := All(from, s)
		rest := slices.Clone(acts)
		if i == len(whole) {
			spoil(p, nil)
			p = api.Parser{}
		} else {
			spoil(api.Parser{}, acts[i:i+1])
			rest = slices.Delete(rest, i, i+1)
		}
		wantP, wantRest := All(from, s)
		if i == len(whole) {
			wantP = api.Parser{}
		} else {
			wantRest = slices.Delete(wantRest, i, i+1)
		}
		wantSame(t, fmt.Sprintf("without %d", i), p, rest, wantP, wantRest)
	}
	_, acts := All(from, s)
	for i := range acts {
		_ = append(acts[i].Params, 99, 99)
		_ = append(acts[i].Inter, "SS"...)
	}
	wantSame(t, "behind more of each", api.Parser{}, acts, api.Parser{}, whole)
}

func TestSameAgain(t *testing.T) {
	s := []byte("a\x1b[1;31mred\x1b[m\xe2")
	want := ""
	for i := range 20 {
		p, acts := All(api.Parser{}, s)
		got := state(p) + told(acts)
		if i > 0 && got != want {
			t.Fatalf("All the next time: %s; want %s", got, want)
		}
		want = got
		// Neither answers that are written over nor wrong calls leave anything behind.
		spoil(p, acts)
		Step(api.Parser{Mode: -1, Params: []int{-1}}, '5')
	}
}

package ether

import (
	"encoding/binary"
	"fmt"
	"math"
	"strings"
	"testing"
	"unsafe"

	"causey/api"
)

// some answers n bytes, unlike for each seed.
func some(n, seed int) string {
	out := make([]byte, n)
	for i := range out {
		out[i] = byte(i*i + i/64*31 + (i+1)*seed + seed*seed/7 + seed>>8*(i+3))
	}
	return string(out)
}

func macOf(seed int) api.Mac { return api.Mac([]byte(some(6, seed))) }

func two(n int) string { return string(binary.BigEndian.AppendUint16(nil, uint16(n))) }

// plain answers the bytes of a frame without a tag: kind is its type or its length.
func plain(seed, kind int, body string) string {
	return some(12, seed) + two(kind) + body
}

// tagged answers the bytes of a frame with a tag.
func tagged(seed, tag, kind int, body string) string {
	return some(12, seed) + "\x81\x00" + two(tag) + two(kind) + body
}

// told answers a frame for a test's message: of its body the beginning alone.
func told(x Eth) string {
	return fmt.Sprintf("{to %x from %x, type %d, %d bytes (%x), VLAN %d, priority %d}", x.F.Dst, x.F.Src, x.F.Type, len(x.F.Body), start(x.F.Body), x.Vlan, x.Prio)
}

func start(s string) string { return s[:min(len(s), 40)] }

// kinds are types and lengths about those at which something changes.
func kinds() []int {
	return []int{0, 1, 2, 45, 46, 255, 256, 1499, 1500, 1501, 1502, 1518, 1534, 1535, 1536, 1537, 2048, 2054, 33023, 33024, 33025, 34525, 34984, 65534, 65535}
}

// wanted parses a frame by the chapter's words, once more: its errors in order, and then its fields.
func wanted(s string) (Eth, api.Errno) {
	at := func(i int) int { return int(binary.BigEndian.Uint16([]byte(s[i:]))) }
	if len(s) < 14 {
		return Eth{}, api.ErrShort
	}
	x := Eth{F: api.Frame{Dst: api.Mac([]byte(s[:6])), Src: api.Mac([]byte(s[6:12])), Type: at(12), Body: s[14:]}, Vlan: -1}
	most := 1514
	if at(12) == 33024 {
		switch {
		case len(s) < 16:
			return Eth{}, api.ErrShort
		case s[14]/16%2 == 1:
			return Eth{}, api.ErrForm
		case len(s) < 18:
			return Eth{}, api.ErrShort
		}
		x.Vlan, x.Prio, x.F.Type, x.F.Body = at(14)%4096, at(14)/8192, at(16), s[18:]
		most = 1518
	}
	switch kind := x.F.Type; {
	case len(s) > most:
		return Eth{}, api.ErrForm
	case kind <= 1500 && len(x.F.Body) < kind:
		return Eth{}, api.ErrShort
	case kind > 1500 && kind < 1536, kind == 33024:
		return Eth{}, api.ErrForm
	case x.Vlan == 4095:
		return Eth{}, api.ErrVlan
	case kind <= 1500:
		x.F.Type, x.F.Body = 0, x.F.Body[:kind]
	}
	return x, api.OK
}

// parses holds Parse against the chapter's words and, of a frame, what the chapter says holds of it.
func parses(t *testing.T, s string) {
	t.Helper()
	want, wantErrno := wanted(s)
	got, errno := Parse(s)
	if got != want || errno != wantErrno {
		t.Fatalf("Parse of %d bytes (%x) = %s, %d, want %s, %d", len(s), start(s), told(got), errno, told(want), wantErrno)
	}
	if errno == api.OK {
		back(t, got)
	}
}

// back holds what is printed of a right frame against it.
func back(t *testing.T, x Eth) {
	t.Helper()
	if !Right(x) {
		t.Fatalf("%s isn't right", told(x))
	}
	s, errno := Print(x)
	if errno != api.OK {
		t.Fatalf("Print(%s) = %d", told(x), errno)
	}
	if y, errno := Parse(s); y != x || errno != api.OK {
		t.Fatalf("Parse(Print(%s)) = %s, %d", told(x), told(y), errno)
	}
}

// 8.1: frames are parsed.

// The chapter's example.
func TestParseOfTheExample(t *testing.T) {
	s := "\x01\x02\x03\x04\x05\x06\x0a\x0b\x0c\x0d\x0e\x0f\x08\x00"
	want := Eth{F: api.Frame{Dst: api.Mac{1, 2, 3, 4, 5, 6}, Src: api.Mac{10, 11, 12, 13, 14, 15}, Type: 2048}, Vlan: -1}
	if got, errno := Parse(s); got != want || errno != api.OK {
		t.Errorf("Parse = %s, %d", told(got), errno)
	}
	if got, errno := Print(want); got != s || errno != api.OK {
		t.Errorf("Print = %x, %d", got, errno)
	}
}

func TestParseOfKnownFrames(t *testing.T) {
	to, from := api.Mac{255, 255, 255, 255, 255, 255}, api.Mac{2, 0, 0, 0, 0, 1}
	head := "\xff\xff\xff\xff\xff\xff\x02\x00\x00\x00\x00\x01"
	for _, c := range []struct {
		s          string
		kind       int
		body       string
		vlan, prio int
	}{
		{"\x08\x06\x00\x01", 2054, "\x00\x01", -1, 0},
		{"\x06\x00", 1536, "", -1, 0},
		{"\xff\xffx", 65535, "x", -1, 0},
		{"\x80\xffx", 33023, "x", -1, 0},
		{"\x81\x01x", 33025, "x", -1, 0},
		{"\x88\xa8\x00\x05\x08\x00x", 34984, "\x00\x05\x08\x00x", -1, 0},
		{"\x00\x00", 0, "", -1, 0},
		{"\x00\x00padding", 0, "", -1, 0},
		{"\x00\x03abc", 0, "abc", -1, 0},
		{"\x00\x03abcpadding", 0, "abc", -1, 0},
		{"\x81\x00\x00\x00\x08\x00x", 2048, "x", 0, 0},
		{"\x81\x00\x00\x01\x08\x00", 2048, "", 1, 0},
		{"\x81\x00\x0f\xfe\x08\x00x", 2048, "x", 4094, 0},
		{"\x81\x00\xef\xfe\x08\x00x", 2048, "x", 4094, 7},
		{"\x81\x00\xe0\x00\x08\x00x", 2048, "x", 0, 7},
		{"\x81\x00\x20\x0a\x08\x00x", 2048, "x", 10, 1},
		{"\x81\x00\x40\x0a\x08\x00x", 2048, "x", 10, 2},
		{"\x81\x00\x80\x0a\x08\x00x", 2048, "x", 10, 4},
		{"\x81\x00\xa1\x23\x00\x00", 0, "", 291, 5},
		{"\x81\x00\xa1\x23\x00\x02abc", 0, "ab", 291, 5},
	} {
		want := Eth{F: api.Frame{Dst: to, Src: from, Type: c.kind, Body: c.body}, Vlan: c.vlan, Prio: c.prio}
		if got, errno := Parse(head + c.s); got != want || errno != api.OK {
			t.Errorf("Parse(%x) = %s, %d, want %s", c.s, told(got), errno, told(want))
		}
		parses(t, head+c.s)
	}
}

// Each error alone, and each two that apply at once, of which the first is told.
func TestErrorsOfParseInOrder(t *testing.T) {
	m, body, over := some(12, 5), strings.Repeat("b", 1500), strings.Repeat("b", 1501)
	for _, c := range []struct {
		name, s string
		want    api.Errno
	}{
		{"nothing", "", api.ErrShort},
		{"no type", m, api.ErrShort},
		{"half a type", m + "\x08", api.ErrShort},
		{"half a mark of a tag", m + "\x81", api.ErrShort},
		{"half a type of none", m + "\x05", api.ErrShort},
		{"no tag behind its mark", m + "\x81\x00", api.ErrShort},
		{"half a tag", m + "\x81\x00\x00", api.ErrShort},
		{"half a tag of a strange form", m + "\x81\x00\x10", api.ErrShort},
		{"half a tag, of the VLAN 4095", m + "\x81\x00\x0f", api.ErrShort},

		{"a strange form", m + "\x81\x00\x10\x01\x08\x00", api.ErrForm},
		{"a strange form, no type", m + "\x81\x00\x10\x01", api.ErrForm},
		{"a strange form, half a type", m + "\x81\x00\x10\x01\x08", api.ErrForm},
		{"a strange form, less than the length", m + "\x81\x00\x10\x01\x00\x02b", api.ErrForm},
		{"a strange form of the VLAN 4095", m + "\x81\x00\x1f\xff\x08\x00", api.ErrForm},
		{"a strange form of the highest priority", m + "\x81\x00\xf0\x01\x08\x00", api.ErrForm},

		{"a tag, no type", m + "\x81\x00\x00\x01", api.ErrShort},
		{"a tag, half a type", m + "\x81\x00\x00\x01\x08", api.ErrShort},
		{"a tag, half a second one", m + "\x81\x00\x00\x01\x81", api.ErrShort},
		{"a tag of the VLAN 4095, no type", m + "\x81\x00\x0f\xff", api.ErrShort},
		{"a tag of the VLAN 4095, half a type", m + "\x81\x00\x0f\xff\x08", api.ErrShort},

		{"too long", m + "\x08\x00" + over, api.ErrForm},
		{"too long, with a tag", m + "\x81\x00\x00\x01\x08\x00" + over, api.ErrForm},
		{"too long, with a length", m + "\x00\x01" + over, api.ErrForm},
		{"too long, with a tag and a length", m + "\x81\x00\x00\x01\x00\x01" + over, api.ErrForm},
		{"too long, of the VLAN 4095", m + "\x81\x00\x0f\xff\x08\x00" + over, api.ErrForm},

		{"less than the length", m + "\x00\x03bb", api.ErrShort},
		{"less than the length, of a byte", m + "\x00\x01", api.ErrShort},
		{"less than the greatest length", m + "\x05\xdc" + body[1:], api.ErrShort},
		{"less than the length, with a tag", m + "\x81\x00\x00\x01\x00\x03bb", api.ErrShort},
		{"less than the length, of the VLAN 4095", m + "\x81\x00\x0f\xff\x00\x03bb", api.ErrShort},

		{"the least type that is none", m + "\x05\xdd" + body, api.ErrForm},
		{"the greatest type that is none", m + "\x05\xff", api.ErrForm},
		{"a type that is none, with a tag", m + "\x81\x00\x00\x01\x05\xdd" + body, api.ErrForm},
		{"a second tag", m + "\x81\x00\x00\x01\x81\x00", api.ErrForm},
		{"a second tag, whole", m + "\x81\x00\x00\x01\x81\x00\x00\x01\x08\x00", api.ErrForm},
		{"a type that is none, of the VLAN 4095", m + "\x81\x00\x0f\xff\x05\xff", api.ErrForm},
		{"a second tag, of the VLAN 4095", m + "\x81\x00\x0f\xff\x81\x00", api.ErrForm},

		{"the VLAN 4095", m + "\x81\x00\x0f\xff\x08\x00", api.ErrVlan},
		{"the VLAN 4095 of the highest priority", m + "\x81\x00\xef\xff\x08\x00b", api.ErrVlan},
		{"the VLAN 4095, with a length", m + "\x81\x00\x0f\xff\x00\x01bb", api.ErrVlan},
		{"the VLAN 4095, as long as may be", m + "\x81\x00\x0f\xff\x08\x00" + body, api.ErrVlan},

		{"as long as may be", m + "\x08\x00" + body, api.OK},
		{"as long as may be, with a tag", m + "\x81\x00\x00\x01\x08\x00" + body, api.OK},
		{"the greatest length", m + "\x05\xdc" + body, api.OK},
		{"the greatest length, with a tag", m + "\x81\x00\x00\x01\x05\xdc" + body, api.OK},
	} {
		got, errno := Parse(c.s)
		if errno != c.want {
			t.Errorf("%s: %d, want %d", c.name, errno, c.want)
		}
		if errno != api.OK && got != (Eth{}) {
			t.Errorf("%s: %s beside an error", c.name, told(got))
		}
		parses(t, c.s)
	}
}

// Each kind of frame, cut off at each length, and longer than may be.
func TestParseOfAllLengths(t *testing.T) {
	body := some(1540, 7)
	for _, kind := range kinds() {
		whole := []string{plain(kind, kind, body)}
		for _, tag := range []int{0, 1, 4094, 4095, 4096, 8191, 0xa00a, 0xefff, 0xffff} {
			whole = append(whole, tagged(kind, tag, kind, body))
		}
		for _, s := range whole {
			for n := range len(s) + 1 {
				parses(t, s[:n])
			}
		}
	}
}

func TestParseOfAllKinds(t *testing.T) {
	for kind := range 1 << 16 {
		for _, body := range []string{"", some(46, kind), some(1500, kind)} {
			parses(t, plain(kind, kind, body))
			parses(t, tagged(kind, 0x600a, kind, body))
		}
	}
}

func TestParseOfAllTags(t *testing.T) {
	for tag := range 1 << 16 {
		parses(t, tagged(tag, tag, 2048, "a body"))
		parses(t, tagged(tag, tag, 4, "a body"))
		parses(t, tagged(tag, tag, 7, "a body"))
		parses(t, tagged(tag, tag, 1535, "a body"))
		parses(t, tagged(tag, tag, 33024, "a body"))
		parses(t, tagged(tag, tag, 2048, "")[:17])
	}
}

// Each byte of some frames made each other one.
func TestParseOfFramesNearby(t *testing.T) {
	for _, s := range []string{plain(1, 2048, "a body"), plain(2, 4, "a body"), tagged(3, 0x600a, 2048, "a body"), tagged(4, 0x0fff, 4, "a body"), tagged(5, 1, 33024, "")} {
		for at := range len(s) {
			for b := range 256 {
				parses(t, s[:at]+string([]byte{byte(b)})+s[at+1:])
			}
		}
	}
}

func TestParseOfOtherTexts(t *testing.T) {
	for n := range 200 {
		for seed := range 50 {
			parses(t, some(n, seed))
		}
		parses(t, strings.Repeat("\x00", n))
		parses(t, strings.Repeat("\xff", n))
		parses(t, strings.Repeat("\x81\x00", n))
	}
	for _, head := range []string{"", plain(1, 2048, ""), plain(1, 1500, ""), tagged(1, 1, 2048, ""), tagged(1, 4096, 2048, ""), tagged(1, 4095, 1500, "")} {
		parses(t, head+strings.Repeat("b", 1<<22))
	}
}

// 8.2: right frames are printed.

func TestPrintOfKnownFrames(t *testing.T) {
	for _, c := range []struct {
		x    Eth
		want string
	}{
		{Eth{Vlan: -1}, "000000000000000000000000" + "0000"},
		{Eth{}, "000000000000000000000000" + "81000000" + "0000"},
		{Eth{F: api.Frame{Dst: api.Mac{1, 2, 3, 4, 5, 6}, Src: api.Mac{7, 8, 9, 10, 11, 12}, Type: 2048, Body: "\xab\xcd"}, Vlan: -1}, "0102030405060708090a0b0c" + "0800" + "abcd"},
		{Eth{F: api.Frame{Dst: api.Mac{1, 2, 3, 4, 5, 6}, Src: api.Mac{7, 8, 9, 10, 11, 12}, Body: "\xab\xcd"}, Vlan: -1}, "0102030405060708090a0b0c" + "0002" + "abcd"},
		{Eth{F: api.Frame{Type: 1536, Body: "\xab"}, Vlan: 0}, "000000000000000000000000" + "81000000" + "0600" + "ab"},
		{Eth{F: api.Frame{Type: 65535, Body: "\xab"}, Vlan: 4094, Prio: 7}, "000000000000000000000000" + "8100effe" + "ffff" + "ab"},
		{Eth{F: api.Frame{Body: "\xab\xcd\xef"}, Vlan: 291, Prio: 1}, "000000000000000000000000" + "81002123" + "0003" + "abcdef"},
		{Eth{F: api.Frame{Type: 34525, Body: "\xab"}, Vlan: 10, Prio: 5}, "000000000000000000000000" + "8100a00a" + "86dd" + "ab"},
		{Eth{F: api.Frame{Body: strings.Repeat("\xab", 1500)}, Vlan: -1}, "000000000000000000000000" + "05dc" + strings.Repeat("ab", 1500)},
	} {
		got, errno := Print(c.x)
		if text := fmt.Sprintf("%x", got); text != c.want || errno != api.OK || !Right(c.x) {
			t.Errorf("Print(%s) = %s, %d, want %s", told(c.x), text, errno, c.want)
		}
	}
}

// prints holds Right and Print against whether a frame is right and, if so, against its bytes.
func prints(t *testing.T, x Eth, right bool) {
	t.Helper()
	if got := Right(x); got != right {
		t.Fatalf("Right(%s) = %v", told(x), got)
	}
	want, wantErrno := "", api.ErrForm
	if right {
		want, wantErrno = string(x.F.Dst[:])+string(x.F.Src[:]), api.OK
		if x.Vlan != -1 {
			want += "\x81\x00" + two(x.Prio*8192+x.Vlan)
		}
		if x.F.Type == 0 {
			want += two(len(x.F.Body)) + x.F.Body
		} else {
			want += two(x.F.Type) + x.F.Body
		}
	}
	if got, errno := Print(x); got != want || errno != wantErrno {
		t.Fatalf("Print(%s) = %d bytes (%x), %d, want %d (%x), %d", told(x), len(got), start(got), errno, len(want), start(want), wantErrno)
	}
	if right {
		back(t, x)
	}
}

// extremes are numbers that may be none of a frame's.
func extremes() []int {
	return []int{math.MinInt, math.MinInt + 1, -1 << 32, -1<<32 + 2048, -1 << 16, -65535, -4096, -2, 1 << 16, 1<<16 + 2048, 1 << 32, 1<<32 + 1, 1<<32 + 2048, math.MaxInt - 1, math.MaxInt}
}

func TestPrintOfAllTypes(t *testing.T) {
	check := func(kind int) {
		right := kind == 0 || kind >= 1536 && kind <= 65535 && kind != 33024
		f := api.Frame{Dst: macOf(kind), Src: macOf(kind + 1), Type: kind, Body: some(9, kind)}
		prints(t, Eth{F: f, Vlan: -1}, right)
		prints(t, Eth{F: f, Vlan: 10, Prio: 3}, right)
	}
	for kind := -3000; kind < 70000; kind++ {
		check(kind)
	}
	for _, kind := range extremes() {
		check(kind)
	}
}

func TestPrintOfAllBodies(t *testing.T) {
	for n := range 1600 {
		for _, kind := range []int{0, 2048} {
			f := api.Frame{Dst: macOf(n), Src: macOf(n + 1), Type: kind, Body: some(n, n)}
			prints(t, Eth{F: f, Vlan: -1}, n <= 1500)
			prints(t, Eth{F: f, Vlan: 4094, Prio: 7}, n <= 1500)
		}
	}
	for _, n := range []int{65535, 65536, 65537, 65536 + 1500, 1 << 22} {
		prints(t, Eth{F: api.Frame{Body: strings.Repeat("b", n)}, Vlan: -1}, false)
		prints(t, Eth{F: api.Frame{Type: 2048, Body: strings.Repeat("b", n)}}, false)
	}
}

func TestPrintOfAllVlansAndPriorities(t *testing.T) {
	check := func(vlan, prio int) {
		right := vlan == -1 && prio == 0 || vlan >= 0 && vlan <= 4094 && prio >= 0 && prio <= 7
		f := api.Frame{Dst: macOf(vlan), Src: macOf(prio), Type: 2048, Body: "a body"}
		prints(t, Eth{F: f, Vlan: vlan, Prio: prio}, right)
		f.Type = 0
		prints(t, Eth{F: f, Vlan: vlan, Prio: prio}, right)
	}
	for vlan := -9; vlan < 4200; vlan++ {
		for prio := -9; prio < 17; prio++ {
			check(vlan, prio)
		}
	}
	for _, n := range extremes() {
		for _, m := range append(extremes(), -1, 0, 1, 7, 8, 4094, 4095) {
			check(n, m)
			check(m, n)
		}
	}
}

// Where several things are wrong, the error is the same one.
func TestPrintOfFramesWrongInAll(t *testing.T) {
	prints(t, Eth{F: api.Frame{Type: -1, Body: strings.Repeat("b", 1501)}, Vlan: -2, Prio: 8}, false)
	prints(t, Eth{F: api.Frame{Type: 33024}, Vlan: 4095, Prio: -1}, false)
	prints(t, Eth{F: api.Frame{Type: 1500, Body: strings.Repeat("b", 1500)}, Vlan: -1}, false)
}

// 8.3: there and back.

func TestWhatIsPrintedIsParsed(t *testing.T) {
	for seed := range 20000 {
		x := Eth{F: api.Frame{Dst: macOf(seed), Src: macOf(seed + 9), Body: some(seed*7%1501, seed)}, Vlan: seed*31%4096 - 1, Prio: seed / 3 % 8}
		if kind := 1536 + seed*53%64000; seed%3 > 0 && kind != 33024 {
			x.F.Type = kind
		}
		if x.Vlan == -1 {
			x.Prio = 0
		}
		back(t, x)
	}
}

// A frame with a type is printed as it was parsed, one with a length without what is left behind its body.
func TestWhatIsParsedIsPrinted(t *testing.T) {
	for _, tail := range []string{"", "x", "\x00", strings.Repeat("\x00", 40)} {
		for n := range 1461 {
			body := some(n, n)
			printed(t, plain(n, n, body+tail), plain(n, n, body))
			printed(t, tagged(n, 0x600a, n, body+tail), tagged(n, 0x600a, n, body))
			printed(t, plain(n, 2048+n, body+tail), plain(n, 2048+n, body+tail))
			printed(t, tagged(n, n, 2048, body+tail), tagged(n, n, 2048, body+tail))
		}
	}
}

// printed holds what is printed of a parsed frame against its bytes.
func printed(t *testing.T, s, want string) {
	t.Helper()
	x, errno := Parse(s)
	if errno != api.OK {
		t.Fatalf("Parse of %d bytes (%x) = %d", len(s), start(s), errno)
	}
	if got, errno := Print(x); got != want || errno != api.OK {
		t.Fatalf("Print(Parse) of %d bytes (%x) = %d (%x), %d, want %d", len(s), start(s), len(got), start(got), errno, len(want))
	}
}

// Rules 4 and 6: answers are new memory, and hang on arguments alone.

// within tells whether the bytes of a text stand in those of another one.
func within(s, of string) bool {
	at, from := uintptr(unsafe.Pointer(unsafe.StringData(s))), uintptr(unsafe.Pointer(unsafe.StringData(of)))
	return len(s) > 0 && at >= from && at < from+uintptr(len(of))
}

func TestBodiesAreNewMemory(t *testing.T) {
	for _, s := range []string{plain(1, 2048, "a body"), plain(2, 6, "a body"), plain(3, 4, "a body"), tagged(4, 10, 2048, "a body"), tagged(5, 10, 4, "a body")} {
		x, errno := Parse(s)
		if errno != api.OK || x.F.Body == "" || within(x.F.Body, s) {
			t.Errorf("Parse(%x) = %s, %d", s, told(x), errno)
		}
		if got, _ := Print(x); within(got, x.F.Body) || within(x.F.Body, got) {
			t.Errorf("Print(%s) shares with its argument", told(x))
		}
	}
}

func TestAnswersHangOnArgumentsAlone(t *testing.T) {
	s := tagged(6, 0xa00a, 2048, "a body")
	x, _ := Parse(s)
	for _, other := range []string{"", tagged(7, 4095, 2048, ""), tagged(7, 4096, 4, "four"), plain(7, 1535, ""), plain(7, 9, "nine")} {
		if _, errno := Parse(other); errno == api.OK {
			t.Fatalf("Parse(%x) = OK", other)
		}
		Print(Eth{Vlan: 4095})
		Right(Eth{Prio: 8})
		if y, errno := Parse(s); y != x || errno != api.OK {
			t.Fatalf("Parse = %s, %d behind another call, %s ahead of it", told(y), errno, told(x))
		}
		if got, errno := Print(x); got != s || errno != api.OK {
			t.Fatalf("Print = %x, %d behind another call", got, errno)
		}
	}
}

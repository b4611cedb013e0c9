package bpdu

import (
	"bytes"
	"encoding/binary"
	"fmt"
	"math"
	"math/big"
	"slices"
	"strings"
	"testing"

	"causey/api"
	"causey/ether"
	"causey/oct"
)

// some answers n bytes, unlike for each seed.
func some(n, seed int) string {
	out := make([]byte, n)
	for i := range out {
		out[i] = byte(i*i + i/64*31 + (i+1)*seed + seed*seed/7 + seed>>8*(i+3))
	}
	return string(out)
}

func idOf(seed int) Id { return Id([]byte(some(8, seed))) }

// wordOf answers a word that can be printed, whose parts are all unlike.
func wordOf(seed int) Word {
	b := []byte(some(14, seed+2))
	two := func(at int) int { return int(binary.BigEndian.Uint16(b[at:])) }
	w := Word{Root: idOf(seed), Bridge: idOf(seed + 1), Cost: int(binary.BigEndian.Uint32(b)), Port: two(4), MaxAge: two(6), Hello: two(8), Delay: two(10), Change: seed%2 == 1, Ack: seed/2%2 == 1}
	if w.MaxAge == 0 {
		w.MaxAge = 1
	}
	w.Age = two(12) % w.MaxAge
	return w
}

// laid answers the bytes of a word, by the places at which the chapter's parts stand, with any flags.
func laid(flags byte, w Word) string {
	out := make([]byte, 38)
	copy(out, "\x42\x42\x03")
	out[7] = flags
	copy(out[8:16], w.Root[:])
	binary.BigEndian.PutUint32(out[16:], uint32(w.Cost))
	copy(out[20:28], w.Bridge[:])
	for i, n := range []int{w.Port, w.Age, w.MaxAge, w.Hello, w.Delay} {
		binary.BigEndian.PutUint16(out[28+2*i:], uint16(n))
	}
	return string(out)
}

func right(w Word) string {
	flags := 0
	if w.Change {
		flags++
	}
	if w.Ack {
		flags += 128
	}
	return laid(byte(flags), w)
}

// wanted parses a word or a notice by the chapter's words, once more.
func wanted(s string) (Word, bool, api.Errno) {
	b := []byte(s)
	if len(b) < 7 {
		return Word{}, false, api.ErrShort
	}
	begins := b[0] == 0x42 && b[1] == 0x42 && b[2] == 3 && b[3] == 0 && b[4] == 0 && b[5] == 0
	if begins && b[6] == 0x80 {
		return Word{}, true, api.OK
	}
	if begins && b[6] == 0 && len(b) < 38 {
		return Word{}, false, api.ErrShort
	}
	if !begins || b[6] != 0 || b[7] != 0 && b[7] != 1 && b[7] != 128 && b[7] != 129 {
		return Word{}, false, api.ErrForm
	}
	two := func(at int) int { return 256*int(b[at]) + int(b[at+1]) }
	if two(30) >= two(32) {
		return Word{}, false, api.ErrForm
	}
	return Word{
		Root: Id(b[8:16]), Cost: 65536*two(16) + two(18), Bridge: Id(b[20:28]), Port: two(28),
		Age: two(30), MaxAge: two(32), Hello: two(34), Delay: two(36), Change: b[7]%2 == 1, Ack: b[7] > 127,
	}, false, api.OK
}

func start(s string) string { return s[:min(len(s), 44)] }

// parses holds Parse against the chapter's words and, of what is a word or a notice, what is printed against its bytes.
func parses(t *testing.T, s string) {
	t.Helper()
	want, wantNotice, wantErrno := wanted(s)
	got, notice, errno := Parse(s)
	if got != want || notice != wantNotice || errno != wantErrno {
		t.Fatalf("Parse of %d bytes (%x) = %v, %v, %d, want %v, %v, %d", len(s), start(s), got, notice, errno, want, wantNotice, wantErrno)
	}
	if errno != api.OK {
		return
	}
	if notice {
		if s[:7] != Notice() {
			t.Fatalf("%x is a notice, and Notice() = %x", s[:7], Notice())
		}
		return
	}
	if back, errno := Print(got); back != s[:38] || errno != api.OK {
		t.Fatalf("Print(%v) = %x, %d, want %x", got, back, errno, s[:38])
	}
}

// 11.1: words and notices are parsed and printed.

// The chapter's example.
func TestNotice(t *testing.T) {
	if s := Notice(); len(s) != 7 || s != "\x42\x42\x03\x00\x00\x00\x80" {
		t.Errorf("Notice() = %x", s)
	}
	for _, behind := range []string{"", "\x00", "\xff", some(31, 1), some(39, 2), right(wordOf(1)), Notice(), strings.Repeat("\x02", 1<<22)} {
		if w, notice, errno := Parse(Notice() + behind); w != (Word{}) || !notice || errno != api.OK {
			t.Errorf("Parse of a notice with %d bytes behind = %v, %v, %d", len(behind), w, notice, errno)
		}
		parses(t, Notice()+behind)
	}
}

func TestKnownWords(t *testing.T) {
	ones := Id{255, 255, 255, 255, 255, 255, 255, 255}
	for _, c := range []struct {
		w Word
		s string
	}{
		{Word{MaxAge: 1}, "42420300000000" + "00" + "0000000000000000" + "00000000" + "0000000000000000" + "0000" + "0000" + "0001" + "0000" + "0000"},
		{
			Word{Root: Id{128, 0, 2, 0, 0, 0, 0, 1}, Bridge: Id{128, 0, 2, 0, 0, 0, 0, 2}, Cost: 20, Port: 1, Age: 1, MaxAge: 20, Hello: 2, Delay: 15},
			"42420300000000" + "00" + "8000020000000001" + "00000014" + "8000020000000002" + "0001" + "0001" + "0014" + "0002" + "000f",
		},
		{
			Word{Root: Id{1, 2, 3, 4, 5, 6, 7, 8}, Cost: 0x090a0b0c, Bridge: Id{13, 14, 15, 16, 17, 18, 19, 20}, Port: 0x1516, Age: 0x1718, MaxAge: 0x191a, Hello: 0x1b1c, Delay: 0x1d1e, Change: true},
			"42420300000000" + "01" + "0102030405060708" + "090a0b0c" + "0d0e0f1011121314" + "1516" + "1718" + "191a" + "1b1c" + "1d1e",
		},
		{
			Word{Root: Id{7: 1}, Bridge: Id{1}, Cost: 1 << 24, Port: 256, Age: 255, MaxAge: 256, Hello: 512, Delay: 1024, Ack: true},
			"42420300000000" + "80" + "0000000000000001" + "01000000" + "0100000000000000" + "0100" + "00ff" + "0100" + "0200" + "0400",
		},
		{
			Word{Root: ones, Bridge: ones, Cost: 1<<32 - 1, Port: 65535, Age: 65534, MaxAge: 65535, Hello: 65535, Delay: 65535, Change: true, Ack: true},
			"42420300000000" + "81" + "ffffffffffffffff" + "ffffffff" + "ffffffffffffffff" + "ffff" + "fffe" + "ffff" + "ffff" + "ffff",
		},
	} {
		s, errno := Print(c.w)
		if text := fmt.Sprintf("%x", s); text != c.s || errno != api.OK {
			t.Errorf("Print(%v) = %s, %d, want %s", c.w, text, errno, c.s)
		}
		if w, notice, errno := Parse(s); w != c.w || notice || errno != api.OK {
			t.Errorf("Parse(%s) = %v, %v, %d, want %v", c.s, w, notice, errno, c.w)
		}
	}
}

// Each error alone, and some at once, of which the first is told.
func TestErrorsOfParseInOrder(t *testing.T) {
	w := Word{Root: idOf(1), Bridge: idOf(2), Cost: 3, Port: 4, Age: 5, MaxAge: 20, Hello: 7, Delay: 8}
	old := w
	old.Age = 20
	whole, notice := right(w), Notice()
	for _, c := range []struct {
		name, s string
		want    api.Errno
	}{
		{"nothing", "", api.ErrShort},
		{"the mark alone", whole[:3], api.ErrShort},
		{"a byte too few of a notice", notice[:6], api.ErrShort},
		{"the head of a word alone", whole[:7], api.ErrShort},
		{"a word's head and flags", whole[:8], api.ErrShort},
		{"a byte too few of a word", whole[:37], api.ErrShort},
		{"too few, and other bytes", "\x41\x42\x03\x00\x00\x00", api.ErrShort},
		{"too few of a word, and other flags", laid(2, w)[:37], api.ErrShort},
		{"too few of a word, and too old", right(old)[:37], api.ErrShort},

		{"another first byte", "\x43" + whole[1:], api.ErrForm},
		{"another second byte", "\x42\x43" + whole[2:], api.ErrForm},
		{"another third byte", "\x42\x42\x04" + whole[3:], api.ErrForm},
		{"another byte ahead of the kind", whole[:5] + "\x01" + whole[6:], api.ErrForm},
		{"the kind 1", whole[:6] + "\x01" + whole[7:], api.ErrForm},
		{"the kind 2", whole[:6] + "\x02" + whole[7:], api.ErrForm},
		{"the kind 81", whole[:6] + "\x81" + whole[7:], api.ErrForm},
		{"the kind a byte too early", whole[:5] + "\x80" + whole[6:], api.ErrForm},
		{"seven bytes of another kind", whole[:6] + "\x01", api.ErrForm},
		{"seven bytes of a notice with another mark", "\x42\x42\x02" + notice[3:], api.ErrForm},
		{"seven bytes of a notice with another number", notice[:3] + "\x01" + notice[4:], api.ErrForm},
		{"a word with another mark, and too few", "\x41" + whole[1:37], api.ErrForm},
		{"a notice behind a byte", "\x00" + notice, api.ErrForm},
		{"a word behind a byte", "\x00" + whole, api.ErrForm},
		{"the flag 2", laid(2, w), api.ErrForm},
		{"the flag 64", laid(64, w), api.ErrForm},
		{"a change, and the flag 2", laid(3, w), api.ErrForm},
		{"an acknowledgement, and the flag 64", laid(192, w), api.ErrForm},
		{"all flags", laid(255, w), api.ErrForm},
		{"an age that is the greatest one", right(old), api.ErrForm},
		{"other flags, and too old", laid(2, old), api.ErrForm},
		{"too old, and more behind", right(old) + whole, api.ErrForm},

		{"a word", whole, api.OK},
		{"a word, and a byte", whole + "\xff", api.OK},
		{"a word, and a notice", whole + notice, api.OK},
		{"a notice", notice, api.OK},
		{"a change", laid(1, w), api.OK},
		{"an acknowledgement", laid(128, w), api.OK},
		{"both", laid(129, w), api.OK},
	} {
		got, is, errno := Parse(c.s)
		if errno != c.want {
			t.Errorf("%s: %d, want %d", c.name, errno, c.want)
		}
		if errno != api.OK && (got != (Word{}) || is) {
			t.Errorf("%s: %v, %v beside an error", c.name, got, is)
		}
		parses(t, c.s)
	}
}

func TestParseOfAllLengths(t *testing.T) {
	w := wordOf(3)
	for _, s := range []string{right(w), laid(2, w), Notice(), "\x41" + right(w)[1:], right(Word{Age: 2, MaxAge: 2}), "\x42\x42\x03\x00\x00\x00\x01"} {
		whole := s + some(1500, 11)
		for n := range len(whole) + 1 {
			parses(t, whole[:n])
		}
	}
}

// What is left behind a word isn't looked at, however long it is.
func TestParseOfWhatIsLeftBehind(t *testing.T) {
	for seed := range 4 {
		w := wordOf(seed)
		for _, tail := range []string{"\x00", "\xff", strings.Repeat("\x00", 8), some(1462, 5), some(1463, 5), strings.Repeat("b", 1<<22), right(wordOf(9))} {
			if got, notice, errno := Parse(right(w) + tail); got != w || notice || errno != api.OK {
				t.Errorf("Parse with %d bytes behind = %v, %v, %d, want %v", len(tail), got, notice, errno, w)
			}
		}
	}
}

func TestParseOfAllFlags(t *testing.T) {
	for flags := range 256 {
		for seed := range 20 {
			parses(t, laid(byte(flags), wordOf(seed)))
		}
		_, _, errno := Parse(laid(byte(flags), wordOf(1)))
		if ok := slices.Contains([]int{0, 1, 128, 129}, flags); ok != (errno == api.OK) {
			t.Errorf("the flags %d: %d", flags, errno)
		}
	}
}

func TestParseOfAllAges(t *testing.T) {
	ages := []int{0, 1, 2, 127, 128, 255, 256, 257, 511, 512, 32767, 32768, 65279, 65280, 65534, 65535}
	for n := range 1 << 16 {
		for _, m := range []int{n, (n + 1) % 65536, (n + 65535) % 65536, 256 * (n % 256), 65535, 0, 1} {
			parses(t, right(Word{Age: n, MaxAge: m, Hello: m, Port: m}))
		}
		for _, age := range ages {
			parses(t, right(Word{Age: age, MaxAge: n, Delay: n, Bridge: Id{1}}))
		}
	}
}

// Each byte of some words and notices made each other one.
func TestParseOfBytesNearby(t *testing.T) {
	for seed := range 30 {
		for _, s := range []string{right(wordOf(seed)), Notice(), Notice() + some(31, seed)} {
			for at := range len(s) {
				for b := range 256 {
					parses(t, s[:at]+string([]byte{byte(b)})+s[at+1:])
				}
			}
		}
	}
}

func TestParseOfOtherTexts(t *testing.T) {
	for n := range 100 {
		for seed := range 100 {
			parses(t, some(n, seed))
			parses(t, Notice()[:6]+some(n, seed))
			parses(t, right(Word{})[:7]+some(n, seed))
		}
		parses(t, strings.Repeat("\x00", n))
		parses(t, strings.Repeat("\x42", n))
		parses(t, strings.Repeat("\xff", n))
	}
	parses(t, strings.Repeat("\x00", 1<<22))
}

// prints holds Print against whether a word's numbers are right and, if so, against its bytes.
func prints(t *testing.T, w Word) {
	t.Helper()
	ok := w.Cost >= 0 && w.Cost <= 4294967295 && w.Age < w.MaxAge
	for _, n := range []int{w.Port, w.Age, w.MaxAge, w.Hello, w.Delay} {
		ok = ok && n >= 0 && n <= 65535
	}
	want, wantErrno := "", api.ErrForm
	if ok {
		want, wantErrno = right(w), api.OK
	}
	if got, errno := Print(w); got != want || errno != wantErrno {
		t.Fatalf("Print(%v) = %x, %d, want %x, %d", w, got, errno, want, wantErrno)
	}
}

// numbers answers where a word's numbers are.
func numbers(w *Word) []*int {
	return []*int{&w.Cost, &w.Port, &w.Age, &w.MaxAge, &w.Hello, &w.Delay}
}

var edges = []int{
	math.MinInt, math.MinInt + 1, -1 << 32, -1<<32 + 1, -1 << 31, -65537, -65536, -65535, -256, -2, -1, 0, 1, 2, 255, 256, 257, 65534, 65535, 65536, 65537, 1 << 17,
	1<<31 - 1, 1 << 31, 1<<32 - 2, 1<<32 - 1, 1 << 32, 1<<32 + 1, 1<<32 + 65535, 1<<63 - 65536, math.MaxInt - 1, math.MaxInt,
}

// Each number alone at each edge, and each two.
func TestPrintAtTheEdges(t *testing.T) {
	for i := range numbers(&Word{}) {
		for j := range i + 1 {
			for _, n := range edges {
				for _, m := range edges {
					w := Word{Root: idOf(1), Bridge: idOf(2), Cost: 3, Port: 4, Age: 5, MaxAge: 6, Hello: 7, Delay: 8, Ack: true}
					*numbers(&w)[j] = m
					*numbers(&w)[i] = n
					prints(t, w)
				}
			}
		}
	}
}

func TestPrintOfKnownFaults(t *testing.T) {
	fine := Word{Root: idOf(1), Bridge: idOf(2), Cost: 3, Port: 4, Age: 5, MaxAge: 6, Hello: 7, Delay: 8}
	for _, c := range []struct {
		name  string
		spoil func(w *Word)
		want  api.Errno
	}{
		{"none", func(w *Word) {}, api.OK},
		{"a cost below 0", func(w *Word) { w.Cost = -1 }, api.ErrForm},
		{"the greatest cost", func(w *Word) { w.Cost = 4294967295 }, api.OK},
		{"a cost above", func(w *Word) { w.Cost = 4294967296 }, api.ErrForm},
		{"a port below 0", func(w *Word) { w.Port = -1 }, api.ErrForm},
		{"the greatest port", func(w *Word) { w.Port = 65535 }, api.OK},
		{"a port above", func(w *Word) { w.Port = 65536 }, api.ErrForm},
		{"an age below 0", func(w *Word) { w.Age = -1 }, api.ErrForm},
		{"the age 0", func(w *Word) { w.Age = 0 }, api.OK},
		{"an age that is the greatest one", func(w *Word) { w.Age = 6 }, api.ErrForm},
		{"an age above the greatest one", func(w *Word) { w.Age = 7 }, api.ErrForm},
		{"the greatest greatest age", func(w *Word) { w.MaxAge = 65535 }, api.OK},
		{"a greatest age above", func(w *Word) { w.MaxAge = 65536 }, api.ErrForm},
		{"the greatest age 0, and an age below 0", func(w *Word) { w.Age, w.MaxAge = -1, 0 }, api.ErrForm},
		{"both ages above", func(w *Word) { w.Age, w.MaxAge = 65536, 65537 }, api.ErrForm},
		{"a hello time below 0", func(w *Word) { w.Hello = -1 }, api.ErrForm},
		{"the greatest hello time", func(w *Word) { w.Hello = 65535 }, api.OK},
		{"a hello time above", func(w *Word) { w.Hello = 65536 }, api.ErrForm},
		{"a delay below 0", func(w *Word) { w.Delay = -1 }, api.ErrForm},
		{"the greatest delay", func(w *Word) { w.Delay = 65535 }, api.OK},
		{"a delay above", func(w *Word) { w.Delay = 65536 }, api.ErrForm},
		{"no times", func(w *Word) { w.Age, w.Hello, w.Delay = 0, 0, 0 }, api.OK},
		{"a zero word", func(w *Word) { *w = Word{} }, api.ErrForm},
	} {
		w := fine
		c.spoil(&w)
		s, errno := Print(w)
		if errno != c.want || (errno == api.OK) != (len(s) == 38) || errno != api.OK && s != "" {
			t.Errorf("%s: Print(%v) = %x, %d, want %d", c.name, w, s, errno, c.want)
		}
		prints(t, w)
	}
}

// 11.2: which identifier is less, and where words go.

func TestLessOfKnownIds(t *testing.T) {
	for _, c := range []struct {
		a, b Id
		want bool
	}{
		{Id{}, Id{}, false},
		{Id{}, Id{7: 1}, true},
		{Id{7: 1}, Id{}, false},
		{Id{1}, Id{2}, true},
		{Id{2}, Id{1}, false},
		{Id{127}, Id{128}, true}, // bytes have no sign
		{Id{255}, Id{0}, false},
		{Id{0, 255, 255, 255, 255, 255, 255, 255}, Id{1}, true},
		{Id{1, 2, 3, 4, 5, 6, 7, 8}, Id{1, 2, 3, 4, 5, 6, 7, 9}, true},
		{Id{1, 2, 3, 4, 6, 0, 0, 0}, Id{1, 2, 3, 4, 5, 6, 7, 9}, false},
		{Id{8, 7: 1}, Id{1, 7: 8}, false},
	} {
		if got := Less(c.a, c.b); got != c.want {
			t.Errorf("Less(%v, %v) = %v", c.a, c.b, got)
		}
	}
}

// As numbers of eight bytes, lesser identifiers are lesser ones.
func TestLessAgainstNumbers(t *testing.T) {
	ids := []Id{{}, {255, 255, 255, 255, 255, 255, 255, 255}}
	for at := range 8 {
		for _, b := range []byte{1, 127, 128, 255} {
			alone, near := Id{}, idOf(5)
			alone[at] = b
			near[at] += b
			ids = append(ids, alone, near)
		}
	}
	for seed := range 300 {
		ids = append(ids, idOf(seed))
	}
	for _, a := range ids {
		for _, b := range ids {
			want := new(big.Int).SetBytes(a[:]).Cmp(new(big.Int).SetBytes(b[:])) < 0
			if got := Less(a, b); got != want || want != (bytes.Compare(a[:], b[:]) < 0) {
				t.Fatalf("Less(%v, %v) = %v, want %v", a, b, got, want)
			}
		}
	}
}

func TestTo(t *testing.T) {
	if got := oct.MacText(To()); got != "01:80:c2:00:00:00" || !oct.Group(To()) {
		t.Errorf("To() = %s", got)
	}
}

// 11.3: there and back.

func TestWhatIsPrintedIsParsed(t *testing.T) {
	for seed := range 50000 {
		w := wordOf(seed)
		prints(t, w)
		s, errno := Print(w)
		if errno != api.OK || len(s) != 38 {
			t.Fatalf("Print(%v) = %x, %d", w, s, errno)
		}
		if back, notice, errno := Parse(s); back != w || notice || errno != api.OK {
			t.Fatalf("Parse(Print(%v)) = %v, %v, %d", w, back, notice, errno)
		}
	}
}

// Each single bit of each part, alone.
func TestWhatIsPrintedOfEachBitIsParsed(t *testing.T) {
	for _, flags := range []byte{0, 1, 128, 129} {
		for bit := range 8 * 30 {
			s := []byte(laid(flags, Word{MaxAge: 65535}))
			s[8+bit/8] ^= 1 << (bit % 8)
			w, _, errno := wanted(string(s))
			if errno != api.OK {
				t.Fatalf("%x is no word", s)
			}
			prints(t, w)
			parses(t, string(s))
		}
	}
}

// A frame of a length takes words and notices over a wire, on which frames are filled up to 60 bytes.
func TestWhatIsPrintedGoesInFrames(t *testing.T) {
	send := func(body string) string {
		t.Helper()
		f := api.Frame{Dst: To(), Src: api.Mac{2, 0, 0, 0, 0, 1}, Body: body}
		s, errno := ether.Print(ether.Eth{F: f, Vlan: -1})
		if errno != api.OK {
			t.Fatalf("ether.Print of %x: %d", body, errno)
		}
		x, errno := ether.Parse(s + strings.Repeat("\x00", 60-len(s)))
		if errno != api.OK || x.F != f {
			t.Fatalf("ether.Parse(%x) = %v, %d", s, x, errno)
		}
		return x.F.Body
	}
	for seed := range 1000 {
		w := wordOf(seed)
		s, _ := Print(w)
		if back, notice, errno := Parse(send(s)); back != w || notice || errno != api.OK {
			t.Fatalf("%v over a wire: %v, %v, %d", w, back, notice, errno)
		}
	}
	if w, notice, errno := Parse(send(Notice())); w != (Word{}) || !notice || errno != api.OK {
		t.Errorf("a notice over a wire: %v, %v, %d", w, notice, errno)
	}
}

// Rule 6: what a call answers hangs on its arguments alone.
func TestAnswersHangOnArgumentsAlone(t *testing.T) {
	w := wordOf(6)
	s := right(w)
	for _, other := range []string{"", Notice(), right(wordOf(7)), laid(2, w), s[:37], s + "behind", right(Word{})} {
		v, _, _ := Parse(other)
		Print(v)
		Less(v.Root, w.Root)
		parses(t, s)
		prints(t, w)
		if Notice() != "\x42\x42\x03\x00\x00\x00\x80" || To() != (api.Mac{1, 128, 194}) || Less(w.Root, w.Root) {
			t.Fatalf("another answer behind other calls")
		}
	}
}

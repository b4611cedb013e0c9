package arp

import (
	"encoding/binary"
	"fmt"
	"math"
	"strings"
	"testing"

	"causey/api"
	"causey/ether"
)

// some answers n bytes, unlike for each seed.
func some(n, seed int) string {
	out := make([]byte, n)
	for i := range out {
		out[i] = byte(i*i + i/64*31 + (i+1)*seed + seed*seed/7 + seed>>8*(i+3))
	}
	return string(out)
}

func macOf(seed int) api.Mac { return api.Mac([]byte(some(6, seed))) }

func ipOf(seed int) [4]byte { return [4]byte([]byte(some(4, seed))) }

// arpOf answers a question or an answer whose parts are all unlike.
func arpOf(op, seed int) Arp {
	return Arp{Op: op, Mac: macOf(seed), Ip: ipOf(seed + 1), To: macOf(seed + 2), Want: ipOf(seed + 3)}
}

// laid answers a body of any numbers, by the places at which the chapter's parts stand.
func laid(hardware, protocol, macs, ips int, a Arp) string {
	out := make([]byte, 28)
	binary.BigEndian.PutUint16(out[0:], uint16(hardware))
	binary.BigEndian.PutUint16(out[2:], uint16(protocol))
	out[4], out[5] = byte(macs), byte(ips)
	binary.BigEndian.PutUint16(out[6:], uint16(a.Op))
	copy(out[8:14], a.Mac[:])
	copy(out[14:18], a.Ip[:])
	copy(out[18:24], a.To[:])
	copy(out[24:28], a.Want[:])
	return string(out)
}

func right(a Arp) string { return laid(1, 2048, 6, 4, a) }

// wanted parses a body by the chapter's words, once more.
func wanted(s string) (Arp, api.Errno) {
	if len(s) < 28 {
		return Arp{}, api.ErrShort
	}
	op := int(s[6])*256 + int(s[7])
	if s[0] != 0 || s[1] != 1 || s[2] != 8 || s[3] != 0 || s[4] != 6 || s[5] != 4 || op < 1 || op > 2 {
		return Arp{}, api.ErrForm
	}
	b := []byte(s)
	return Arp{Op: op, Mac: api.Mac(b[8:14]), Ip: [4]byte(b[14:18]), To: api.Mac(b[18:24]), Want: [4]byte(b[24:28])}, api.OK
}

// told answers a frame for a test's message.
func told(f api.Frame) string {
	return fmt.Sprintf("{to %x from %x, type %d, %x}", f.Dst, f.Src, f.Type, start(f.Body))
}

func start(s string) string { return s[:min(len(s), 40)] }

// parses holds Parse against the chapter's words and, of a body that is one, Print against its 28 bytes.
func parses(t *testing.T, s string) {
	t.Helper()
	want, wantErrno := wanted(s)
	got, errno := Parse(s)
	if got != want || errno != wantErrno {
		t.Fatalf("Parse of %d bytes (%x) = %v, %d, want %v, %d", len(s), start(s), got, errno, want, wantErrno)
	}
	if errno != api.OK {
		return
	}
	if back, errno := Print(got); back != s[:28] || errno != api.OK {
		t.Fatalf("Print(%v) = %x, %d, want %x", got, back, errno, s[:28])
	}
}

// 9.1: bodies are parsed and printed.

// The chapter's example.
func TestPrintOfTheExample(t *testing.T) {
	for _, q := range []Arp{{Op: 1}, arpOf(1, 5)} {
		if s, errno := Print(q); len(s) != 28 || s[7] != 1 || errno != api.OK {
			t.Errorf("Print(%v) = %x, %d", q, s, errno)
		}
	}
}

func TestKnownBodies(t *testing.T) {
	for _, c := range []struct {
		a Arp
		s string
	}{
		{Arp{Op: 1}, "0001080006040001" + "00000000000000000000" + "00000000000000000000"},
		{Arp{Op: 2}, "0001080006040002" + "00000000000000000000" + "00000000000000000000"},
		{
			Arp{Op: 1, Mac: api.Mac{2, 0, 0, 0, 0, 1}, Ip: [4]byte{10, 0, 0, 1}, Want: [4]byte{10, 0, 0, 2}},
			"0001080006040001" + "020000000001" + "0a000001" + "000000000000" + "0a000002",
		},
		{
			Arp{Op: 2, Mac: api.Mac{1, 2, 3, 4, 5, 6}, Ip: [4]byte{7, 8, 9, 10}, To: api.Mac{11, 12, 13, 14, 15, 16}, Want: [4]byte{17, 18, 19, 20}},
			"0001080006040002" + "010203040506" + "0708090a" + "0b0c0d0e0f10" + "11121314",
		},
		{
			Arp{Op: 1, Mac: api.Mac{255, 255, 255, 255, 255, 255}, Ip: [4]byte{255, 255, 255, 255}, To: api.Mac{255, 255, 255, 255, 255, 255}, Want: [4]byte{255, 255, 255, 255}},
			"0001080006040001" + "ffffffffffffffffffff" + "ffffffffffffffffffff",
		},
	} {
		s, errno := Print(c.a)
		if text := fmt.Sprintf("%x", s); text != c.s || errno != api.OK {
			t.Errorf("Print(%v) = %s, %d, want %s", c.a, text, errno, c.s)
		}
		if a, errno := Parse(s); a != c.a || errno != api.OK {
			t.Errorf("Parse(%s) = %v, %d, want %v", c.s, a, errno, c.a)
		}
	}
}

// Each error alone, and both at once, of which the first is told.
func TestErrorsOfParseInOrder(t *testing.T) {
	q, a := arpOf(1, 3), arpOf(2, 4)
	for _, c := range []struct {
		name, s string
		want    api.Errno
	}{
		{"nothing", "", api.ErrShort},
		{"a byte", "\x00", api.ErrShort},
		{"the head alone", right(q)[:6], api.ErrShort},
		{"no sender", right(q)[:8], api.ErrShort},
		{"no target", right(a)[:18], api.ErrShort},
		{"a byte too few of a question", right(q)[:27], api.ErrShort},
		{"a byte too few of an answer", right(a)[:27], api.ErrShort},
		{"too few, and other numbers", laid(2, 2049, 5, 3, arpOf(3, 1))[:27], api.ErrShort},
		{"too few, and another Op", right(arpOf(3, 1))[:27], api.ErrShort},

		{"stations of no kind", laid(0, 2048, 6, 4, q), api.ErrForm},
		{"stations of another kind", laid(6, 2048, 6, 4, q), api.ErrForm},
		{"stations of a kind with the same low byte", laid(257, 2048, 6, 4, q), api.ErrForm},
		{"stations of a kind with its bytes changed about", laid(256, 2048, 6, 4, q), api.ErrForm},
		{"addresses of no kind", laid(1, 0, 6, 4, q), api.ErrForm},
		{"addresses of sixteen bytes", laid(1, 34525, 6, 4, q), api.ErrForm},
		{"addresses of the next kind", laid(1, 2049, 6, 4, q), api.ErrForm},
		{"addresses of a kind with its bytes changed about", laid(1, 8, 6, 4, q), api.ErrForm},
		{"stations of another size", laid(1, 2048, 8, 4, q), api.ErrForm},
		{"stations of no size", laid(1, 2048, 0, 4, q), api.ErrForm},
		{"addresses of another size", laid(1, 2048, 6, 16, q), api.ErrForm},
		{"addresses of no size", laid(1, 2048, 6, 0, q), api.ErrForm},
		{"sizes changed about", laid(1, 2048, 4, 6, q), api.ErrForm},
		{"the Op 0", right(arpOf(0, 1)), api.ErrForm},
		{"the Op 3", right(arpOf(3, 1)), api.ErrForm},
		{"the Op 256", right(arpOf(256, 1)), api.ErrForm},
		{"the Op 257", right(arpOf(257, 1)), api.ErrForm},
		{"the Op 512", right(arpOf(512, 1)), api.ErrForm},
		{"the Op 65535", right(arpOf(65535, 1)), api.ErrForm},
		{"other numbers in all", laid(2, 2049, 5, 3, arpOf(3, 1)), api.ErrForm},
		{"another number, and more than enough", laid(2, 2048, 6, 4, q) + right(q), api.ErrForm},
		{"a body behind a byte", "\x00" + right(q), api.ErrForm},

		{"a question", right(q), api.OK},
		{"an answer", right(a), api.OK},
		{"a question, and a byte", right(q) + "\xff", api.OK},
		{"an answer, and another one", right(a) + right(q), api.OK},
	} {
		got, errno := Parse(c.s)
		if errno != c.want {
			t.Errorf("%s: %d, want %d", c.name, errno, c.want)
		}
		if errno != api.OK && got != (Arp{}) {
			t.Errorf("%s: %v beside an error", c.name, got)
		}
		parses(t, c.s)
	}
}

func TestParseOfAllLengths(t *testing.T) {
	q, a := arpOf(1, 8), arpOf(2, 9)
	for _, s := range []string{right(q), right(a), right(arpOf(0, 7)), laid(2, 2048, 6, 4, q), laid(1, 2048, 6, 16, a)} {
		whole := s + some(1500, 11)
		for n := range len(whole) + 1 {
			parses(t, whole[:n])
		}
	}
}

// What is left behind a body isn't looked at, however long it is.
func TestParseOfWhatIsLeftBehind(t *testing.T) {
	for _, a := range []Arp{arpOf(1, 8), arpOf(2, 9)} {
		for _, tail := range []string{"\x00", "\xff", strings.Repeat("\x00", 18), some(1472, 5), some(1473, 5), strings.Repeat("b", 1<<22), right(arpOf(2, 1))} {
			if got, errno := Parse(right(a) + tail); got != a || errno != api.OK {
				t.Errorf("Parse with %d bytes behind = %v, %d, want %v", len(tail), got, errno, a)
			}
		}
	}
}

func TestParseOfAllNumbers(t *testing.T) {
	for n := range 1 << 16 {
		q, a := arpOf(1, n), arpOf(2, n)
		parses(t, right(arpOf(n, n)))
		parses(t, laid(n, 2048, 6, 4, q))
		parses(t, laid(1, n, 6, 4, a))
		parses(t, laid(1, 2048, n>>8, n&255, q))
	}
}

// Each byte of some bodies made each other one.
func TestParseOfBodiesNearby(t *testing.T) {
	for seed := range 20 {
		s := right(arpOf(1+seed%2, seed))
		for at := range len(s) {
			for b := range 256 {
				parses(t, s[:at]+string([]byte{byte(b)})+s[at+1:])
			}
		}
	}
}

func TestParseOfOtherTexts(t *testing.T) {
	for n := range 100 {
		for seed := range 100 {
			parses(t, some(n, seed))
		}
		parses(t, strings.Repeat("\x00", n))
		parses(t, strings.Repeat("\x01", n))
		parses(t, strings.Repeat("\xff", n))
	}
	parses(t, strings.Repeat("\x00", 1<<22))
}

// prints holds Print against whether an Op is right and, if so, against the body's bytes.
func prints(t *testing.T, a Arp) {
	t.Helper()
	want, wantErrno := "", api.ErrForm
	if a.Op == 1 || a.Op == 2 {
		want, wantErrno = right(a), api.OK
	}
	if got, errno := Print(a); got != want || errno != wantErrno {
		t.Fatalf("Print(%v) = %x, %d, want %x, %d", a, got, errno, want, wantErrno)
	}
}

func TestPrintOfAllOps(t *testing.T) {
	for op := -70000; op < 140000; op++ {
		prints(t, arpOf(op, op))
	}
	for _, op := range []int{math.MinInt, math.MinInt + 1, math.MinInt + 2, -1 << 32, -1<<32 + 1, -1<<32 + 2, 1<<31 + 1, 1 << 32, 1<<32 + 1, 1<<32 + 2, math.MaxInt - 1, math.MaxInt} {
		prints(t, arpOf(op, 1))
		prints(t, Arp{Op: op})
	}
	prints(t, Arp{})
}

// 9.2: frames of questions and answers.

var everyone = api.Mac{255, 255, 255, 255, 255, 255}

func TestKnownFrames(t *testing.T) {
	mac, ip, want := api.Mac{2, 0, 0, 0, 0, 1}, [4]byte{10, 0, 0, 1}, [4]byte{10, 0, 0, 2}
	q := Question(mac, ip, want)
	if q != (api.Frame{Dst: everyone, Src: mac, Type: 2054, Body: "\x00\x01\x08\x00\x06\x04\x00\x01\x02\x00\x00\x00\x00\x01\x0a\x00\x00\x01\x00\x00\x00\x00\x00\x00\x0a\x00\x00\x02"}) {
		t.Errorf("Question = %s", told(q))
	}
	asked, errno := Parse(q.Body)
	if errno != api.OK {
		t.Fatalf("Parse(%x) = %d", q.Body, errno)
	}
	a := Answer(asked, api.Mac{9, 8, 7, 6, 5, 4})
	if a != (api.Frame{Dst: mac, Src: api.Mac{9, 8, 7, 6, 5, 4}, Type: 2054, Body: "\x00\x01\x08\x00\x06\x04\x00\x02\x09\x08\x07\x06\x05\x04\x0a\x00\x00\x02\x02\x00\x00\x00\x00\x01\x0a\x00\x00\x01"}) {
		t.Errorf("Answer = %s", told(a))
	}
}

// frames holds a frame against the chapter's words, and against what its bytes are parsed as.
func frames(t *testing.T, got api.Frame, to api.Mac, a Arp) {
	t.Helper()
	if got != (api.Frame{Dst: to, Src: a.Mac, Type: 2054, Body: right(a)}) {
		t.Fatalf("%s, of %v to %x", told(got), a, to)
	}
	s, errno := ether.Print(ether.Eth{F: got, Vlan: -1})
	if errno != api.OK || len(s) != 42 {
		t.Fatalf("ether.Print(%s) = %d bytes, %d", told(got), len(s), errno)
	}
	// On a wire frames are filled up to 60 bytes.
	x, errno := ether.Parse(s + strings.Repeat("\x00", 18))
	if errno != api.OK || x.F.Dst != to || x.F.Src != a.Mac || x.F.Type != Type {
		t.Fatalf("ether.Parse(%x) = %s, %d", s, told(x.F), errno)
	}
	if back, errno := Parse(x.F.Body); back != a || errno != api.OK {
		t.Fatalf("Parse(%x) = %v, %d, want %v", x.F.Body, back, errno, a)
	}
}

func TestQuestions(t *testing.T) {
	if Type != 2054 {
		t.Errorf("Type = %d", Type)
	}
	ask := func(mac api.Mac, ip, want [4]byte) {
		frames(t, Question(mac, ip, want), everyone, Arp{Op: 1, Mac: mac, Ip: ip, Want: want})
	}
	ask(api.Mac{}, [4]byte{}, [4]byte{})
	ask(everyone, [4]byte{255, 255, 255, 255}, [4]byte{255, 255, 255, 255})
	ask(macOf(1), [4]byte{}, ipOf(2))
	ask(macOf(1), ipOf(2), ipOf(2))
	for seed := range 5000 {
		ask(macOf(seed), ipOf(seed+1), ipOf(seed+2))
	}
}

// q's target and q's Op don't matter.
func TestAnswers(t *testing.T) {
	tell := func(q Arp, mac api.Mac) {
		frames(t, Answer(q, mac), q.Mac, Arp{Op: 2, Mac: mac, Ip: q.Want, To: q.Mac, Want: q.Ip})
	}
	tell(Arp{}, api.Mac{})
	tell(Arp{Op: 1}, everyone)
	tell(Arp{Op: 1, Mac: everyone, Ip: ipOf(1), Want: ipOf(1)}, macOf(2))
	tell(arpOf(1, 3), macOf(3))
	for _, op := range []int{math.MinInt, -1, 0, 1, 2, 3, 65535, 65536, math.MaxInt} {
		tell(arpOf(op, 4), macOf(9))
	}
	for seed := range 5000 {
		tell(arpOf(seed%3, seed), macOf(seed+7))
	}
}

// A question's answer, answered, asks for nothing but what was told.
func TestAnswerOfAnAnswer(t *testing.T) {
	for seed := range 1000 {
		q, errno := Parse(Question(macOf(seed), ipOf(seed+1), ipOf(seed+2)).Body)
		if errno != api.OK {
			t.Fatalf("Parse = %d", errno)
		}
		a, errno := Parse(Answer(q, macOf(seed+3)).Body)
		if errno != api.OK {
			t.Fatalf("Parse = %d", errno)
		}
		frames(t, Answer(a, q.Mac), a.Mac, Arp{Op: 2, Mac: q.Mac, Ip: q.Ip, To: a.Mac, Want: q.Want})
	}
}

// 9.3: there and back.

func TestWhatIsPrintedIsParsed(t *testing.T) {
	for seed := range 50000 {
		a := arpOf(1+seed%2, seed)
		s, errno := Print(a)
		if errno != api.OK || len(s) != 28 {
			t.Fatalf("Print(%v) = %x, %d", a, s, errno)
		}
		if back, errno := Parse(s); back != a || errno != api.OK {
			t.Fatalf("Parse(Print(%v)) = %v, %d", a, back, errno)
		}
	}
}

// Each single bit of each part, alone.
func TestWhatIsPrintedOfEachBitIsParsed(t *testing.T) {
	for op := 1; op <= 2; op++ {
		for bit := range 8 * 20 {
			s := []byte(right(Arp{Op: op}))
			s[8+bit/8] |= 1 << (bit % 8)
			a, errno := wanted(string(s))
			if errno != api.OK {
				t.Fatalf("%x is no body", s)
			}
			prints(t, a)
			parses(t, string(s))
		}
	}
}

// Rule 6: what a call answers hangs on its arguments alone.
func TestAnswersHangOnArgumentsAlone(t *testing.T) {
	a := arpOf(1, 6)
	s := right(a)
	q, r := Question(macOf(1), ipOf(2), ipOf(3)), Answer(a, macOf(4))
	for _, other := range []string{"", right(arpOf(2, 7)), right(arpOf(3, 7)), laid(2, 2048, 6, 4, a), s[:27], s + "behind"} {
		b, _ := Parse(other)
		Print(b)
		Question(b.Mac, b.Ip, b.Want)
		Answer(b, b.To)
		parses(t, s)
		prints(t, a)
		if Question(macOf(1), ipOf(2), ipOf(3)) != q || Answer(a, macOf(4)) != r {
			t.Fatalf("another frame behind other calls")
		}
	}
}

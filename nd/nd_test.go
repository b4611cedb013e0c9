package nd

import (
	"encoding/binary"
	"fmt"
	"math"
	"strings"
	"testing"

	"causey/api"
	"causey/ether"
)

// some answers n bytes, unlike for each seed.
func some(n, seed int) string {
	out := make([]byte, n)
	for i := range out {
		out[i] = byte(i*i + i/64*31 + (i+1)*seed + seed*seed/7 + seed>>8*(i+3))
	}
	return string(out)
}

func macOf(seed int) api.Mac { return api.Mac([]byte(some(6, seed))) }

func ipOf(seed int) [16]byte { return [16]byte([]byte(some(16, seed))) }

func flagsOf(seed int) [4]byte { return [4]byte([]byte(some(4, seed))) }

// ndOf answers a question or an answer without a station's address, whose parts are all unlike.
func ndOf(op, seed int) Nd {
	return Nd{Op: op, From: ipOf(seed), To: ipOf(seed + 1), About: ipOf(seed + 2), Flags: flagsOf(seed + 3)}
}

// fullOf answers one with a station's address.
func fullOf(op, seed int) Nd {
	n := ndOf(op, seed)
	n.Mac, n.Has = macOf(seed+4), true
	return n
}

// raw is a body of any numbers; what wrong says is added to its right sum.
type raw struct {
	version         byte
	loose           [3]byte
	size            int
	protocol, hops  byte
	from, to, about [16]byte
	kind, code      byte
	wrong           int
	flags           [4]byte
	option          string
}

// rawOf answers the numbers that the chapter asks for.
func rawOf(n Nd) raw {
	r := raw{version: 96, size: 24, protocol: 58, hops: 255, from: n.From, to: n.To, about: n.About, kind: byte(134 + n.Op), flags: n.Flags}
	if n.Has {
		r.size = 32
		r.option = string([]byte{byte(n.Op), 1}) + string(n.Mac[:])
	}
	return r
}

// laid answers the bytes, by the places at which the chapter's parts stand.
func (r raw) laid() string {
	out := make([]byte, 64, 80)
	out[0] = r.version
	copy(out[1:4], r.loose[:])
	binary.BigEndian.PutUint16(out[4:], uint16(r.size))
	out[6], out[7] = r.protocol, r.hops
	copy(out[8:24], r.from[:])
	copy(out[24:40], r.to[:])
	out[40], out[41] = r.kind, r.code
	copy(out[44:48], r.flags[:])
	copy(out[48:64], r.about[:])
	out = append(out, r.option...)
	binary.BigEndian.PutUint16(out[42:], uint16(checked(out[8:40], out[40:])+r.wrong))
	return string(out)
}

func right(n Nd) string { return rawOf(n).laid() }

// checked answers the sum of a message whose own is looked at as 0, by rests instead of what lies above 16 bits.
func checked(addresses, message []byte) int {
	sum := len(message) + 58
	for i := 0; i < len(addresses); i += 2 {
		sum += int(binary.BigEndian.Uint16(addresses[i:]))
	}
	for i := 0; i < len(message); i += 2 {
		if i != 2 {
			sum += int(binary.BigEndian.Uint16(message[i:]))
		}
	}
	// What is added is above 0, so that it never becomes 0.
	return 65535 - (sum-1)%65535 - 1
}

// wanted parses a body by the chapter's words, once more.
func wanted(s string) (Nd, api.Errno) {
	b := []byte(s)
	if len(b) < 64 {
		return Nd{}, api.ErrShort
	}
	size := int(b[4])*256 + int(b[5])
	if b[0] != 96 || b[6] != 58 || b[7] != 255 || size != 24 && size != 32 {
		return Nd{}, api.ErrForm
	}
	if len(b) < 40+size {
		return Nd{}, api.ErrShort
	}
	n := Nd{Op: int(b[40]) - 134, Has: size == 32}
	if n.Op != 1 && n.Op != 2 || b[41] != 0 || n.Has && (int(b[64]) != n.Op || b[65] != 1) {
		return Nd{}, api.ErrForm
	}
	if int(b[42])*256+int(b[43]) != checked(b[8:40], b[40:40+size]) {
		return Nd{}, api.ErrSum
	}
	n.From, n.To, n.About, n.Flags = [16]byte(b[8:24]), [16]byte(b[24:40]), [16]byte(b[48:64]), [4]byte(b[44:48])
	if n.Has {
		n.Mac = api.Mac(b[66:72])
	}
	return n, api.OK
}

// told answers a frame for a test's message.
func told(f api.Frame) string {
	return fmt.Sprintf("{to %x from %x, type %d, %x}", f.Dst, f.Src, f.Type, shown(f.Body))
}

func shown(s string) string { return s[:min(len(s), 80)] }

// parses holds Parse against the chapter's words and, of a body that is one, Print against its bytes.
func parses(t *testing.T, s string) {
	t.Helper()
	want, wantErrno := wanted(s)
	got, errno := Parse(s)
	if got != want || errno != wantErrno {
		t.Fatalf("Parse of %d bytes (%x) = %v, %d, want %v, %d", len(s), shown(s), got, errno, want, wantErrno)
	}
	if errno != api.OK {
		return
	}
	back, errno := Print(got)
	if printed := s[:1] + "\x00\x00\x00" + s[4:40+int(s[5])]; back != printed || errno != api.OK {
		t.Fatalf("Print(%v) = %x, %d, want %x", got, back, errno, printed)
	}
}

// 10.1: bodies are parsed and printed.

// The chapter's example.
func TestPrintOfTheExample(t *testing.T) {
	for _, q := range []Nd{{Op: 1}, ndOf(1, 5)} {
		if s, errno := Print(q); len(s) != 64 || errno != api.OK {
			t.Errorf("Print(%v) = %x, %d", q, s, errno)
		}
	}
}

// The sums of these were worked out by another program.
func TestKnownBodies(t *testing.T) {
	zeros := strings.Repeat("00", 16)
	one, two := [16]byte{0xfe, 0x80, 15: 1}, [16]byte{0xfe, 0x80, 15: 2}
	global := [16]byte{0x20, 0x01, 0x0d, 0xb8, 12: 0xa1, 0xb2, 0xc3, 0xd4}
	for _, c := range []struct {
		n Nd
		s string
	}{
		{Nd{Op: 1}, "6000000000183aff" + zeros + zeros + "870078ad00000000" + zeros},
		{Nd{Op: 2}, "6000000000183aff" + zeros + zeros + "880077ad00000000" + zeros},
		{
			Nd{Op: 1, From: one, To: [16]byte{0xff, 2, 11: 1, 0xff, 0, 0, 2}, About: two, Mac: api.Mac{2, 0, 0, 0, 0, 1}, Has: true},
			"6000000000203aff" + "fe800000000000000000000000000001" + "ff0200000000000000000001ff000002" +
				"87007a9700000000" + "fe800000000000000000000000000002" + "0101020000000001",
		},
		{
			Nd{Op: 2, From: two, To: one, About: two, Mac: api.Mac{2, 0, 0, 0, 0, 2}, Has: true, Flags: [4]byte{96}},
			"6000000000203aff" + "fe800000000000000000000000000002" + "fe800000000000000000000000000001" +
				"8800181a60000000" + "fe800000000000000000000000000002" + "0201020000000002",
		},
		{
			Nd{Op: 2, From: global, To: [16]byte{0xff, 2, 15: 1}, About: global, Flags: [4]byte{32}},
			"6000000000183aff" + "20010db80000000000000000a1b2c3d4" + "ff020000000000000000000000000001" +
				"8800322820000000" + "20010db80000000000000000a1b2c3d4",
		},
	} {
		s, errno := Print(c.n)
		if text := fmt.Sprintf("%x", s); text != c.s || errno != api.OK {
			t.Errorf("Print(%v) = %s, %d, want %s", c.n, text, errno, c.s)
		}
		if n, errno := Parse(s); n != c.n || errno != api.OK {
			t.Errorf("Parse(%s) = %v, %d, want %v", c.s, n, errno, c.n)
		}
	}
}

// Each fault alone, of a body without a station's address and of one with it.
func TestErrorsOfParse(t *testing.T) {
	for _, c := range []struct {
		name  string
		spoil func(r *raw)
		want  api.Errno
	}{
		{"another version", func(r *raw) { r.version = 97 }, api.ErrForm},
		{"the version of addresses of four bytes", func(r *raw) { r.version = 69 }, api.ErrForm},
		{"another protocol", func(r *raw) { r.protocol = 1 }, api.ErrForm},
		{"another protocol, and hops changed about", func(r *raw) { r.protocol, r.hops = 255, 58 }, api.ErrForm},
		{"a hop too many", func(r *raw) { r.hops = 254 }, api.ErrForm},
		{"no hops", func(r *raw) { r.hops = 0 }, api.ErrForm},
		{"no size", func(r *raw) { r.size = 0 }, api.ErrForm},
		{"a size below", func(r *raw) { r.size = 23 }, api.ErrForm},
		{"a size above a message without a station", func(r *raw) { r.size = 25 }, api.ErrForm},
		{"a size below a message with a station", func(r *raw) { r.size = 31 }, api.ErrForm},
		{"a size above", func(r *raw) { r.size = 33 }, api.ErrForm},
		{"the size of two stations", func(r *raw) { r.size = 40 }, api.ErrForm},
		{"a size with its bytes changed about", func(r *raw) { r.size = 24 << 8 }, api.ErrForm},
		{"a size of the same low byte", func(r *raw) { r.size |= 256 }, api.ErrForm},
		{"the size of all", func(r *raw) { r.size += 40 }, api.ErrForm},
		{"another message: an echo", func(r *raw) { r.kind = 128 }, api.ErrForm},
		{"the message below", func(r *raw) { r.kind = 134 }, api.ErrForm},
		{"the message above", func(r *raw) { r.kind = 137 }, api.ErrForm},
		{"another code", func(r *raw) { r.code = 1 }, api.ErrForm},
		{"a sum one above", func(r *raw) { r.wrong = 1 }, api.ErrSum},
		{"a sum one below", func(r *raw) { r.wrong = -1 }, api.ErrSum},
		{"a sum with another high byte", func(r *raw) { r.wrong = 256 }, api.ErrSum},

		{"three bytes of any kind", func(r *raw) { r.loose = [3]byte{1, 2, 255} }, api.OK},
		{"four other bytes of any kind", func(r *raw) { r.flags = [4]byte{255, 1, 2, 255} }, api.OK},
		{"the same address thrice", func(r *raw) { r.to, r.about = r.from, r.from }, api.OK},
	} {
		for _, n := range []Nd{ndOf(1, 3), ndOf(2, 4), fullOf(1, 5), fullOf(2, 6)} {
			r := rawOf(n)
			c.spoil(&r)
			got, errno := Parse(r.laid())
			if errno != c.want {
				t.Errorf("%s of %v: %d, want %d", c.name, n, errno, c.want)
			}
			if errno != api.OK && got != (Nd{}) {
				t.Errorf("%s of %v: %v beside an error", c.name, n, got)
			}
			parses(t, r.laid())
			parses(t, r.laid()+some(100, 7))
		}
	}
}

// Of a message with a station's address, the numbers ahead of it.
func TestErrorsOfStations(t *testing.T) {
	for _, n := range []Nd{fullOf(1, 5), fullOf(2, 6)} {
		for kind := range 256 {
			for units := range 256 {
				r := rawOf(n)
				r.option = string([]byte{byte(kind), byte(units)}) + r.option[2:]
				want := api.ErrForm
				if kind == n.Op && units == 1 {
					want = api.OK
				}
				if got, errno := Parse(r.laid()); errno != want || errno != api.OK && got != (Nd{}) {
					t.Fatalf("Parse of %v with a station's numbers %d %d = %v, %d, want %d", n, kind, units, got, errno, want)
				}
			}
		}
	}
}

// Of any faults at once the first from the front is told.
func TestErrorsOfParseInOrder(t *testing.T) {
	faults := []struct {
		name  string
		spoil func(r *raw)
		cut   int
		want  api.Errno
	}{
		{"fewer than 64 bytes", nil, 63, api.ErrShort},
		{"another version", func(r *raw) { r.version = 64 }, 72, api.ErrForm},
		{"another size", func(r *raw) { r.size = 40 }, 72, api.ErrForm},
		{"other hops", func(r *raw) { r.hops = 64 }, 72, api.ErrForm},
		{"fewer than the head says", nil, 71, api.ErrShort},
		{"another message", func(r *raw) { r.kind = 133 }, 72, api.ErrForm},
		{"another code", func(r *raw) { r.code = 255 }, 72, api.ErrForm},
		{"another station's number", func(r *raw) { r.option = "\x03" + r.option[1:] }, 72, api.ErrForm},
		{"another sum", func(r *raw) { r.wrong = 77 }, 72, api.ErrSum},
	}
	for set := range 1 << len(faults) {
		for op := 1; op <= 2; op++ {
			r, cut, want, names := rawOf(fullOf(op, set)), 72, api.OK, []string{}
			for i, fault := range faults {
				if set>>i&1 == 0 {
					continue
				}
				names = append(names, fault.name)
				cut = min(cut, fault.cut)
				if want == api.OK {
					want = fault.want
				}
				if fault.spoil != nil {
					fault.spoil(&r)
				}
			}
			s := r.laid()[:cut]
			if got, errno := Parse(s); errno != want || errno != api.OK && got != (Nd{}) {
				t.Errorf("Parse of %v = %v, %d, want %d", names, got, errno, want)
			}
			parses(t, s)
		}
	}
}

func TestParseOfAllLengths(t *testing.T) {
	for _, s := range []string{right(ndOf(1, 8)), right(ndOf(2, 9)), right(fullOf(1, 10)), right(fullOf(2, 11)), right(ndOf(3, 12)), right(fullOf(0, 13))} {
		whole := s + some(1500, 11)
		for n := range len(whole) + 1 {
			parses(t, whole[:n])
		}
	}
}

// What is left behind a message isn't looked at, however long it is.
func TestParseOfWhatIsLeftBehind(t *testing.T) {
	for _, n := range []Nd{ndOf(1, 8), ndOf(2, 9), fullOf(1, 10), fullOf(2, 11)} {
		for _, tail := range []string{"\x00", "\xff", "\x01\x01\x02\x03\x04\x05\x06\x07", strings.Repeat("\x00", 18), some(1436, 5), some(1437, 5), strings.Repeat("b", 1<<22), right(fullOf(2, 1))} {
			if got, errno := Parse(right(n) + tail); got != n || errno != api.OK {
				t.Errorf("Parse with %d bytes behind = %v, %d, want %v", len(tail), got, errno, n)
			}
		}
	}
}

// Of a size that would hold all of what is there, too.
func TestParseOfAllSizes(t *testing.T) {
	tail := some(65535, 3)
	for size := range 1 << 16 {
		r := rawOf(ndOf(1+size%2, size))
		r.size = size
		s := r.laid()
		parses(t, s)
		parses(t, s+tail)
	}
}

func TestParseOfAllHeadsAndMessages(t *testing.T) {
	for n := range 1 << 16 {
		high, low := byte(n>>8), byte(n)
		for _, r := range []raw{rawOf(ndOf(1+n%2, n)), rawOf(fullOf(1+n%2, n))} {
			head, message := r, r
			head.protocol, head.hops = high, low
			message.kind, message.code = high, low
			parses(t, head.laid())
			parses(t, message.laid())
			r.version, r.loose[n%3] = high, low
			parses(t, r.laid())
		}
	}
}

// summed answers one whose message has that sum.
func summed(n Nd, sum int) Nd {
	n.Flags = [4]byte{}
	s := right(n)
	// From one sum down to another one are as many as the flags make it less.
	less := (int(s[42])*256 + int(s[43]) - sum + 65535) % 65535
	binary.BigEndian.PutUint16(n.Flags[2:], uint16(less))
	return n
}

// Of all sums that may be laid, just one is right: 65535 never is, though beside a sum of 0 it adds up to the same.
func TestParseOfAllSums(t *testing.T) {
	for i, n := range []Nd{ndOf(1, 3), fullOf(2, 4), ndOf(2, 5), fullOf(1, 6)} {
		for _, n := range []Nd{n, summed(n, 0), summed(n, 1), summed(n, 65534), summed(n, 4660+i)} {
			s, parsed := right(n), 0
			for sum := range 1 << 16 {
				laid := s[:42] + string([]byte{byte(sum >> 8), byte(sum)}) + s[44:]
				parses(t, laid)
				if got, errno := Parse(laid); errno == api.OK {
					parsed++
					if laid != s || got != n {
						t.Errorf("%v is parsed with the sum %04x", n, sum)
					}
				} else if errno != api.ErrSum {
					t.Fatalf("Parse of %v with the sum %04x = %d", n, sum, errno)
				}
			}
			if parsed != 1 {
				t.Errorf("%v is parsed with %d sums", n, parsed)
			}
		}
	}
}

func TestParseOfASumOf0(t *testing.T) {
	for seed := range 200 {
		for _, n := range []Nd{summed(ndOf(1+seed%2, seed), 0), summed(fullOf(1+seed%2, seed), 0)} {
			s, errno := Print(n)
			if errno != api.OK || s[42:44] != "\x00\x00" {
				t.Fatalf("Print(%v) = %x, %d", n, s, errno)
			}
			if got, errno := Parse(s); got != n || errno != api.OK {
				t.Fatalf("Parse(%x) = %v, %d", s, got, errno)
			}
			if got, errno := Parse(s[:42] + "\xff\xff" + s[44:]); got != (Nd{}) || errno != api.ErrSum {
				t.Fatalf("Parse with the sum 65535 in place of 0 = %v, %d", got, errno)
			}
		}
	}
}

// The sum holds the addresses and the message's size, not the head's other bytes.
func TestWhatTheSumHolds(t *testing.T) {
	for seed := range 100 {
		n := fullOf(1+seed%2, seed)
		s := right(n)
		for at := range 40 {
			spoilt := s[:at] + string([]byte{s[at] ^ byte(1<<(seed%8))}) + s[at+1:]
			want := api.ErrForm
			if at >= 8 {
				want = api.ErrSum
			} else if at >= 1 && at < 4 {
				want = api.OK
			}
			if _, errno := Parse(spoilt); errno != want {
				t.Errorf("Parse with another byte at %d = %d, want %d", at, errno, want)
			}
		}
		// Without its station, a message of the same sum otherwise has another one.
		short := ndOf(1+seed%2, seed)
		r := rawOf(short)
		r.wrong = -8
		if _, errno := Parse(r.laid()); errno != api.ErrSum {
			t.Errorf("Parse with the sum of a message of 32 bytes = %d", errno)
		}
	}
}

// Each byte of some bodies made each other one.
func TestParseOfBodiesNearby(t *testing.T) {
	for seed := range 12 {
		for _, s := range []string{right(ndOf(1+seed%2, seed)), right(fullOf(1+seed%2, seed))} {
			for at := range len(s) {
				for b := range 256 {
					parses(t, s[:at]+string([]byte{byte(b)})+s[at+1:])
				}
			}
		}
	}
}

func TestParseOfOtherTexts(t *testing.T) {
	for n := range 150 {
		for seed := range 100 {
			parses(t, some(n, seed))
			parses(t, "\x60\x00\x00\x00\x00\x18\x3a\xff"+some(n, seed))
			parses(t, "\x60\x00\x00\x00\x00\x20\x3a\xff"+some(n, seed))
		}
		parses(t, strings.Repeat("\x00", n))
		parses(t, strings.Repeat("\x60", n))
		parses(t, strings.Repeat("\xff", n))
	}
	parses(t, strings.Repeat("\x00", 1<<22))
	parses(t, strings.Repeat("\x60", 1<<22))
}

// prints holds Print against whether one is right and, if so, against the body's bytes.
func prints(t *testing.T, n Nd) {
	t.Helper()
	want, wantErrno := "", api.ErrForm
	if (n.Op == 1 || n.Op == 2) && (n.Has || n.Mac == api.Mac{}) {
		want, wantErrno = right(n), api.OK
	}
	if got, errno := Print(n); got != want || errno != wantErrno {
		t.Fatalf("Print(%v) = %x, %d, want %x, %d", n, got, errno, want, wantErrno)
	}
}

func TestPrintOfAllOps(t *testing.T) {
	for op := -70000; op < 140000; op++ {
		prints(t, ndOf(op, op))
		prints(t, fullOf(op, op))
	}
	for _, op := range []int{math.MinInt, math.MinInt + 1, math.MinInt + 2, -1 << 32, -1<<32 + 1, -1<<32 + 2, 1<<31 + 1, 1 << 32, 1<<32 + 1, 1<<32 + 2, math.MaxInt - 133, math.MaxInt - 1, math.MaxInt} {
		prints(t, ndOf(op, 1))
		prints(t, fullOf(op, 1))
		prints(t, Nd{Op: op})
	}
	prints(t, Nd{})
	prints(t, Nd{Has: true})
}

// Without Has no station's address may be there; with it, any, zero too.
func TestPrintOfStations(t *testing.T) {
	for op := 0; op <= 3; op++ {
		for _, mac := range []api.Mac{{}, {1}, {5: 1}, {0, 0, 0, 128}, {2, 0, 0, 0, 0, 1}, {255, 255, 255, 255, 255, 255}} {
			for _, has := range []bool{false, true} {
				n := ndOf(op, 5)
				n.Mac, n.Has = mac, has
				prints(t, n)
				s, errno := Print(n)
				switch {
				case op < 1 || op > 2 || !has && mac != api.Mac{}:
					if s != "" || errno != api.ErrForm {
						t.Errorf("Print(%v) = %x, %d", n, s, errno)
					}
				case len(s) != 64 && !has || len(s) != 72 && has:
					t.Errorf("Print(%v) has %d bytes", n, len(s))
				default:
					if back, errno := Parse(s); back != n || errno != api.OK {
						t.Errorf("Parse(Print(%v)) = %v, %d", n, back, errno)
					}
				}
			}
		}
	}
}

// The three bytes of any kind are looked at by no one, and laid as 0.
func TestBytesOfAnyKind(t *testing.T) {
	for b := range 256 {
		for at := range 3 {
			n := fullOf(1+b%2, b)
			r := rawOf(n)
			r.loose[at] = byte(b)
			if got, errno := Parse(r.laid()); got != n || errno != api.OK {
				t.Errorf("Parse with %x = %v, %d, want %v", r.loose, got, errno, n)
			}
			if s, errno := Print(n); errno != api.OK || s[1:4] != "\x00\x00\x00" {
				t.Errorf("Print(%v) = %x, %d", n, s, errno)
			}
		}
	}
}

// 10.2: frames of answers.

func TestKnownAnswer(t *testing.T) {
	q := Nd{Op: 1, From: [16]byte{0xfe, 0x80, 15: 1}, To: [16]byte{0xff, 2, 11: 1, 0xff, 0, 0, 2}, About: [16]byte{0xfe, 0x80, 15: 2}, Mac: api.Mac{2, 0, 0, 0, 0, 1}, Has: true}
	f := Answer(q, api.Mac{2, 0, 0, 0, 0, 2}, api.Mac{2, 0, 0, 0, 0, 1})
	body := "6000000000203aff" + "fe800000000000000000000000000002" + "fe800000000000000000000000000001" +
		"8800181a60000000" + "fe800000000000000000000000000002" + "0201020000000002"
	if f.Dst != (api.Mac{2, 0, 0, 0, 0, 1}) || f.Src != (api.Mac{2, 0, 0, 0, 0, 2}) || f.Type != 34525 || fmt.Sprintf("%x", f.Body) != body {
		t.Errorf("Answer = %s", told(f))
	}
}

// answers holds Answer against the chapter's words, and against what its bytes are parsed as.
func answers(t *testing.T, q Nd, mac, to api.Mac) {
	t.Helper()
	a := Nd{Op: 2, From: q.About, To: q.From, About: q.About, Mac: mac, Has: true, Flags: [4]byte{96, 0, 0, 0}}
	got := Answer(q, mac, to)
	if got != (api.Frame{Dst: to, Src: mac, Type: 34525, Body: right(a)}) {
		t.Fatalf("Answer(%v, %x, %x) = %s", q, mac, to, told(got))
	}
	s, errno := ether.Print(ether.Eth{F: got, Vlan: -1})
	if errno != api.OK || len(s) != 86 {
		t.Fatalf("ether.Print(%s) = %d bytes, %d", told(got), len(s), errno)
	}
	x, errno := ether.Parse(s)
	if errno != api.OK || x.F != got || x.F.Type != Type {
		t.Fatalf("ether.Parse(%x) = %s, %d", s, told(x.F), errno)
	}
	if back, errno := Parse(x.F.Body); back != a || errno != api.OK {
		t.Fatalf("Parse(%x) = %v, %d, want %v", x.F.Body, back, errno, a)
	}
}

// Whom q goes to, its Op, its flags and its station don't matter.
func TestAnswers(t *testing.T) {
	everyone := api.Mac{255, 255, 255, 255, 255, 255}
	answers(t, Nd{}, api.Mac{}, api.Mac{})
	answers(t, Nd{Op: 1}, everyone, everyone)
	answers(t, fullOf(1, 3), macOf(3), macOf(3))
	for _, op := range []int{math.MinInt, -1, 0, 1, 2, 3, 65535, 65536, math.MaxInt} {
		answers(t, ndOf(op, 4), macOf(9), macOf(10))
		answers(t, fullOf(op, 4), macOf(9), macOf(10))
		wrong := ndOf(op, 4)
		wrong.Mac = macOf(11)
		answers(t, wrong, macOf(9), macOf(10))
	}
	for seed := range 5000 {
		answers(t, ndOf(seed%3, seed), macOf(seed+7), macOf(seed+8))
		answers(t, fullOf(seed%3, seed), macOf(seed+7), macOf(seed+8))
	}
}

// 10.3: there and back, and changed.

func TestWhatIsPrintedIsParsed(t *testing.T) {
	for seed := range 30000 {
		for _, n := range []Nd{ndOf(1+seed%2, seed), fullOf(1+seed%2, seed)} {
			s, errno := Print(n)
			if errno != api.OK {
				t.Fatalf("Print(%v) = %x, %d", n, s, errno)
			}
			if back, errno := Parse(s); back != n || errno != api.OK {
				t.Fatalf("Parse(Print(%v)) = %v, %d", n, back, errno)
			}
		}
	}
}

// Each single bit of each part, alone, and all but it.
func TestWhatIsPrintedOfEachBitIsParsed(t *testing.T) {
	for op := 1; op <= 2; op++ {
		for bit := range 8 * (3*16 + 4 + 6) {
			for _, fill := range []byte{0, 255} {
				parts := []byte(strings.Repeat(string([]byte{fill}), 3*16+4+6))
				parts[bit/8] ^= 1 << (bit % 8)
				n := Nd{Op: op, From: [16]byte(parts), To: [16]byte(parts[16:]), About: [16]byte(parts[32:]), Flags: [4]byte(parts[48:]), Mac: api.Mac(parts[52:]), Has: true}
				prints(t, n)
				parses(t, right(n))
				n.Mac, n.Has = api.Mac{}, false
				prints(t, n)
				parses(t, right(n))
			}
		}
	}
}

func TestMessageWithAByteChangedIsNotParsed(t *testing.T) {
	for seed := range 40 {
		for _, n := range []Nd{ndOf(1+seed%2, seed), fullOf(1+seed%2, seed), summed(ndOf(1+seed%2, seed), 0), summed(fullOf(1+seed%2, seed), 65534), {Op: 1 + seed%2}} {
			s, errno := Print(n)
			if errno != api.OK {
				t.Fatalf("Print(%v) = %x, %d", n, s, errno)
			}
			for at := 40; at < len(s); at++ {
				for change := 1; change < 256; change++ {
					spoilt := s[:at] + string([]byte{s[at] ^ byte(change)}) + s[at+1:]
					if got, errno := Parse(spoilt); got != (Nd{}) || errno != api.ErrSum && errno != api.ErrForm {
						t.Fatalf("Parse of %v with a byte changed at %d = %v, %d", n, at, got, errno)
					}
				}
			}
		}
	}
}

// Rule 6: what a call answers hangs on its arguments alone.
func TestAnswersHangOnArgumentsAlone(t *testing.T) {
	n := fullOf(1, 6)
	s := right(n)
	f := Answer(n, macOf(1), macOf(2))
	for _, other := range []string{"", right(ndOf(2, 7)), right(fullOf(3, 7)), "a" + s[1:], s[:63], s[:71], s[:71] + "x", s + "behind"} {
		b, _ := Parse(other)
		Print(b)
		Answer(b, macOf(3), macOf(4))
		parses(t, s)
		prints(t, n)
		if Answer(n, macOf(1), macOf(2)) != f {
			t.Fatalf("another frame behind other calls")
		}
	}
}

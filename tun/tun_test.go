package tun

import (
	"bytes"
	"encoding/binary"
	"fmt"
	"math"
	"math/rand"
	"slices"
	"strings"
	"testing"
	"unsafe"

	"causey/api"
)

// some answers n bytes, unlike for each seed.
func some(n, seed int) string {
	out := make([]byte, n)
	for i := range out {
		out[i] = byte(i*i + i/64*31 + (i+1)*seed + seed*seed/7 + seed>>8*(i+3))
	}
	return string(out)
}

// numbers are datagrams' numbers, at the edges of bytes, halves and signs.
var numbers = []uint64{0, 1, 2, 127, 128, 255, 256, 258, 1<<16 - 1, 1 << 16, 1<<31 - 1, 1 << 31, 1<<32 - 1, 1 << 32, 1<<32 + 1, 1<<40 + 7, 1<<56 - 1, 1 << 56, 1<<63 - 1, 1 << 63, 0x0123456789abcdef, 0xfedcba9876543210, math.MaxUint64 - 1, math.MaxUint64}

// kinds are no kinds of datagrams, though some are in their lowest byte.
var kinds = []int{math.MinInt, math.MinInt + 1, math.MinInt + 3, -255, -254, -253, -3, -2, -1, 0, 4, 5, 127, 128, 255, 256, 257, 258, 259, 1<<16 + 1, 1<<32 + 1, 1<<32 + 2, 1<<32 + 3, math.MaxInt - 252, math.MaxInt}

// laid answers a sealed datagram's bytes, as the chapter says.
func laid(n uint64, body string) string {
	return "\x03" + string(binary.BigEndian.AppendUint64(nil, n)) + body
}

// wanted parses a datagram by the chapter's words, once more.
func wanted(s string) (Gram, api.Errno) {
	b := []byte(s)
	if len(b) == 0 {
		return Gram{}, api.ErrShort
	}
	switch {
	case (b[0] == 1 || b[0] == 2) && len(b) < 49, b[0] == 3 && len(b) < 25:
		return Gram{}, api.ErrShort
	case b[0] == 0, b[0] > 3, b[0] < 3 && len(b) > 49:
		return Gram{}, api.ErrForm
	case b[0] == 3:
		return Gram{3, binary.BigEndian.Uint64(b[1:9]), string(b[9:])}, api.OK
	}
	return Gram{int(b[0]), 0, string(b[1:])}, api.OK
}

func holdParse(t *testing.T, s string) {
	t.Helper()
	g, errno := Parse(s)
	if x, e := wanted(s); g != x || errno != e {
		t.Fatalf("Parse(%d bytes %.20q) = %.40v, %d; wanted %.40v, %d", len(s), s, g, errno, x, e)
	}
}

func TestKnownGrams(t *testing.T) {
	table := []struct {
		name string
		s    string
		g    Gram
	}{
		{"a greeting", "\x01" + some(48, 1), Gram{Kind: 1, Body: some(48, 1)}},
		{"its answer", "\x02" + some(48, 2), Gram{Kind: 2, Body: some(48, 2)}},
		{"a greeting of noughts", "\x01" + strings.Repeat("\x00", 48), Gram{Kind: 1, Body: strings.Repeat("\x00", 48)}},
		{"an answer of 255s", "\x02" + strings.Repeat("\xff", 48), Gram{Kind: 2, Body: strings.Repeat("\xff", 48)}},
		{"the least that is sealed", "\x03\x00\x00\x00\x00\x00\x00\x00\x00" + some(16, 3), Gram{Kind: 3, Body: some(16, 3)}},
		{"one more", "\x03\x00\x00\x00\x00\x00\x00\x00\x01" + some(17, 4), Gram{Kind: 3, N: 1, Body: some(17, 4)}},
		{"a number of two bytes", "\x03\x00\x00\x00\x00\x00\x00\x01\x02" + some(16, 5), Gram{Kind: 3, N: 258, Body: some(16, 5)}},
		{"a number of eight", "\x03\x01\x23\x45\x67\x89\xab\xcd\xef" + some(48, 6), Gram{Kind: 3, N: 0x0123456789abcdef, Body: some(48, 6)}},
		{"the greatest number", "\x03\xff\xff\xff\xff\xff\xff\xff\xff" + some(535, 7), Gram{Kind: 3, N: math.MaxUint64, Body: some(535, 7)}},
	}
	for _, row := range table {
		if g, errno := Parse(row.s); g != row.g || errno != api.OK {
			t.Errorf("%s: Parse = %.60v, %d", row.name, g, errno)
		}
		if s, errno := Print(row.g); s != row.s || errno != api.OK {
			t.Errorf("%s: Print = %.60q, %d", row.name, s, errno)
		}
	}
}

func TestErrorsOfParse(t *testing.T) {
	table := []struct {
		name string
		s    string
		want api.Errno
	}{
		{"nothing", "", api.ErrShort},
		{"a greeting's kind alone", "\x01", api.ErrShort},
		{"an answer's kind alone", "\x02", api.ErrShort},
		{"what is sealed, its kind alone", "\x03", api.ErrShort},
		{"a greeting, one byte too short", "\x01" + some(47, 1), api.ErrShort},
		{"an answer, one byte too short", "\x02" + some(47, 1), api.ErrShort},
		{"sealed, without a whole number", "\x03" + some(7, 1), api.ErrShort},
		{"sealed, a number alone", "\x03" + some(8, 1), api.ErrShort},
		{"sealed, one byte too short", "\x03" + some(23, 1), api.ErrShort},
		{"a greeting, one byte too long", "\x01" + some(49, 1), api.ErrForm},
		{"an answer, one byte too long", "\x02" + some(49, 1), api.ErrForm},
		{"a greeting, twice", strings.Repeat("\x01"+some(48, 1), 2), api.ErrForm},
		{"an answer, very long", "\x02" + some(70000, 1), api.ErrForm},
		{"the kind 0 alone", "\x00", api.ErrForm},
		{"the kind 4 alone", "\x04", api.ErrForm},
		{"the kind 0", "\x00" + some(48, 1), api.ErrForm},
		{"the kind 4", "\x04" + some(48, 1), api.ErrForm},
		{"the kind 255", "\xff" + some(24, 1), api.ErrForm},
		{"a digit as a kind", "1" + some(48, 1), api.ErrForm},
	}
	for _, row := range table {
		if g, errno := Parse(row.s); g != (Gram{}) || errno != row.want {
			t.Errorf("%s: Parse = %.60v, %d; wanted %d", row.name, g, errno, row.want)
		}
	}
}

func TestParseOfAllKindsAndLengths(t *testing.T) {
	holdParse(t, "")
	for kind := range 256 {
		for n := range 80 {
			holdParse(t, string([]byte{byte(kind)})+some(n, kind+n))
		}
		for _, n := range []int{255, 256, 512, 519, 543, 1518, 1 << 16} {
			holdParse(t, string([]byte{byte(kind)})+some(n, kind))
		}
	}
}

func TestParseOfBytesNearby(t *testing.T) {
	for _, s := range []string{"\x01" + some(48, 1), "\x02" + some(48, 2), laid(0x0123456789abcdef, some(40, 3))} {
		for at := range s {
			for x := range 256 {
				b := []byte(s)
				b[at] = byte(x)
				holdParse(t, string(b))
			}
		}
	}
}

func TestParseOfOtherTexts(t *testing.T) {
	for _, s := range []string{"\x01é" + strings.Repeat("ü", 23), "\x03" + strings.Repeat("世", 8), "\x02\xc3\x28" + strings.Repeat("\xff\xfe", 23), "\u0001" + strings.Repeat("\u0000", 48), strings.Repeat("\x03", 25), strings.Repeat("\x01", 49), strings.Repeat("\x02", 49), Idle()} {
		holdParse(t, s)
	}
	draw := rand.New(rand.NewSource(12))
	for range 20000 {
		b := make([]byte, draw.Intn(60))
		draw.Read(b)
		if len(b) > 0 {
			b[0] %= 5
		}
		holdParse(t, string(b))
	}
}

func TestNumbersOfGrams(t *testing.T) {
	list := slices.Clone(numbers)
	for bit := range 64 {
		list = append(list, 1<<bit, 1<<bit-1, ^(uint64(1) << bit))
	}
	for i, n := range list {
		g := Gram{Kind: 3, N: n, Body: some(16+i, i)}
		s, errno := Print(g)
		if s != laid(n, g.Body) || errno != api.OK {
			t.Errorf("Print of the number %d = %.30q, %d", n, s, errno)
		}
		if x, errno := Parse(s); x != g || errno != api.OK {
			t.Errorf("Parse of the number %d = %.60v, %d", n, x, errno)
		}
	}
}

func TestErrorsOfPrint(t *testing.T) {
	refused := func(name string, g Gram) {
		t.Helper()
		if s, errno := Print(g); s != "" || errno != api.ErrForm {
			t.Errorf("%s: Print = %.30q, %d", name, s, errno)
		}
	}
	refused("a zero one", Gram{})
	for _, kind := range kinds {
		for _, n := range []int{0, 15, 16, 24, 47, 48, 49} {
			for _, number := range []uint64{0, 1} {
				refused(fmt.Sprintf("the kind %d with %d bytes and the number %d", kind, n, number), Gram{kind, number, some(n, kind)})
			}
		}
	}
	for _, number := range numbers[1:] {
		refused("a greeting's number", Gram{1, number, some(48, 1)})
		refused("an answer's number", Gram{2, number, some(48, 1)})
	}
	for n := range 200 {
		body := some(n, n)
		for _, number := range numbers {
			if n != 48 {
				refused(fmt.Sprintf("a greeting of %d bytes", n), Gram{1, number, body})
				refused(fmt.Sprintf("an answer of %d bytes", n), Gram{2, number, body})
			}
			if n < 16 {
				refused(fmt.Sprintf("sealed, %d bytes", n), Gram{3, number, body})
			}
		}
	}
	refused("a greeting of very many bytes", Gram{Kind: 1, Body: some(1<<16+48, 1)})
}

func TestPrintOfAllLengths(t *testing.T) {
	lengths := []int{1518, 1535, 1536, 1 << 16, 1<<16 + 48, 1 << 20}
	for n := 16; n < 600; n++ {
		lengths = append(lengths, n)
	}
	for _, n := range lengths {
		g := Gram{3, uint64(n) << 20, some(n, n)}
		s, errno := Print(g)
		if s != laid(g.N, g.Body) || errno != api.OK {
			t.Errorf("Print of %d bytes: %d bytes, %d", n, len(s), errno)
		}
		if x, errno := Parse(s); x != g || errno != api.OK {
			t.Errorf("Parse of what was printed of %d bytes: %d", n, errno)
		}
	}
}

// What is printed is parsed as it was; and what is parsed is printed so.
func TestThereAndBack(t *testing.T) {
	draw := rand.New(rand.NewSource(3))
	for i := range 5000 {
		g := Gram{Kind: 1 + i%3, Body: some(48, i)}
		if g.Kind == 3 {
			g.N, g.Body = draw.Uint64(), some(16+draw.Intn(600), i)
		}
		s, errno := Print(g)
		if errno != api.OK {
			t.Fatalf("Print(%.60v) = %d", g, errno)
		}
		if x, errno := Parse(s); x != g || errno != api.OK {
			t.Fatalf("Parse(%.60q) = %.60v, %d", s, x, errno)
		}
		b := []byte(s)
		b[draw.Intn(len(b))] = byte(draw.Intn(256))
		if x, errno := Parse(string(b)); errno == api.OK {
			if again, errno := Print(x); again != string(b) || errno != api.OK {
				t.Fatalf("Print(%.60v) = %.60q, %d", x, again, errno)
			}
		}
	}
}

func TestIdle(t *testing.T) {
	if s := Idle(); s != "\x00" {
		t.Errorf("Idle = %q", s)
	}
}

// cut answers a text's pieces by the chapter's words, once more.
func cut(n uint32, s string) []string {
	var bodies []string
	for len(s) > 512 {
		bodies = append(bodies, s[:512])
		s = s[512:]
	}
	bodies = append(bodies, s)
	for i := range bodies {
		bodies[i] = pieceOf(n, i, len(bodies), bodies[i])
	}
	return bodies
}

// pieceOf answers a piece, be it right or not.
func pieceOf(n uint32, place, count int, body string) string {
	return string(append(binary.BigEndian.AppendUint32([]byte{1}, n), byte(place), byte(count))) + body
}

func TestCutOfTheExample(t *testing.T) {
	pieces, errno := Cut(1, some(600, 1))
	if errno != api.OK || len(pieces) != 2 || len(pieces[0]) != 519 || len(pieces[1]) != 95 {
		t.Errorf("Cut of 600 bytes: %d pieces, %d", len(pieces), errno)
	}
}

func TestCutOfKnownTexts(t *testing.T) {
	table := []struct {
		n      uint32
		s      string
		pieces []string
	}{
		{0, "a", []string{"\x01\x00\x00\x00\x00\x00\x01a"}},
		{258, "a text", []string{"\x01\x00\x00\x01\x02\x00\x01a text"}},
		{0x01234567, "\x00", []string{"\x01\x01\x23\x45\x67\x00\x01\x00"}},
		{math.MaxUint32, some(512, 1), []string{"\x01\xff\xff\xff\xff\x00\x01" + some(512, 1)}},
		{1 << 31, some(513, 2), []string{"\x01\x80\x00\x00\x00\x00\x02" + some(513, 2)[:512], "\x01\x80\x00\x00\x00\x01\x02" + some(513, 2)[512:]}},
		{7, some(1024, 3), []string{"\x01\x00\x00\x00\x07\x00\x02" + some(1024, 3)[:512], "\x01\x00\x00\x00\x07\x01\x02" + some(1024, 3)[512:]}},
		{8, some(1025, 4), []string{"\x01\x00\x00\x00\x08\x00\x03" + some(1025, 4)[:512], "\x01\x00\x00\x00\x08\x01\x03" + some(1025, 4)[512:1024], "\x01\x00\x00\x00\x08\x02\x03" + some(1025, 4)[1024:]}},
		{9, some(1536, 5), []string{"\x01\x00\x00\x00\x09\x00\x03" + some(1536, 5)[:512], "\x01\x00\x00\x00\x09\x01\x03" + some(1536, 5)[512:1024], "\x01\x00\x00\x00\x09\x02\x03" + some(1536, 5)[1024:]}},
	}
	for _, row := range table {
		if pieces, errno := Cut(row.n, row.s); !slices.Equal(pieces, row.pieces) || errno != api.OK {
			t.Errorf("Cut(%d, %d bytes) = %.60q, %d", row.n, len(row.s), pieces, errno)
		}
	}
}

func TestCutOfAllLengths(t *testing.T) {
	for n := 1; n <= 1536; n++ {
		number, s := uint32(n)*2796203, some(n, n)
		pieces, errno := Cut(number, s)
		if !slices.Equal(pieces, cut(number, s)) || errno != api.OK {
			t.Errorf("Cut of %d bytes: %d pieces, %d", n, len(pieces), errno)
		}
	}
}

func TestCutOfOtherLengths(t *testing.T) {
	for _, n := range []int{0, 1537, 1538, 2047, 2048, 2049, 4096, 1 << 16, 1<<16 + 1, 256 * 512, 257 * 512, 1 << 20} {
		for _, number := range []uint32{0, 1, math.MaxUint32} {
			if pieces, errno := Cut(number, some(n, 1)); len(pieces) != 0 || errno != api.ErrArg {
				t.Errorf("Cut of %d bytes: %d pieces, %d", n, len(pieces), errno)
			}
		}
	}
}

func TestCutUnderAllNumbers(t *testing.T) {
	for bit := range 32 {
		for _, number := range []uint32{1 << bit, 1<<bit - 1, ^(uint32(1) << bit)} {
			s := some(1+bit*47, bit)
			if pieces, errno := Cut(number, s); !slices.Equal(pieces, cut(number, s)) || errno != api.OK {
				t.Errorf("Cut under %d: %.40q, %d", number, pieces, errno)
			}
		}
	}
}

// takes holds what a joiner answers of a piece, and how many texts it keeps then.
func takes(t *testing.T, j *Joiner, s, text string, whole bool, errno api.Errno, held int) {
	t.Helper()
	x, ok, e := j.Take(s)
	if x != text || ok != whole || e != errno || j.Held() != held {
		t.Fatalf("Take(%d bytes %.12q) = %d bytes %.12q, %v, %d, with %d held; wanted %d bytes %.12q, %v, %d, with %d", len(s), s, len(x), x, ok, e, j.Held(), len(text), text, whole, errno, held)
	}
}

func TestTakeOfNil(t *testing.T) {
	var j *Joiner
	for _, s := range []string{"", "\x00", "\x01", "\x02", "\x00a", pieceOf(1, 0, 1, "a"), pieceOf(1, 0, 2, some(512, 1)), pieceOf(1, 0, 0, "a")} {
		takes(t, j, s, "", false, api.ErrArg, 0)
	}
}

func TestErrorsOfTakeInOrder(t *testing.T) {
	full := some(512, 1)
	table := []struct {
		name string
		s    string
		want api.Errno
	}{
		{"nothing", "", api.ErrShort},
		{"a piece's first byte alone", "\x01", api.ErrShort},
		{"a piece without a count", "\x01\x00\x00\x00\x05\x00", api.ErrShort},
		{"a piece without bytes", pieceOf(5, 1, 2, ""), api.ErrShort},
		{"a piece without bytes, and without a right count", pieceOf(5, 9, 9, ""), api.ErrShort},
		{"a piece without bytes, that came", pieceOf(5, 0, 2, ""), api.ErrShort},
		{"a piece without bytes, whose text has another count", pieceOf(5, 0, 1, ""), api.ErrShort},
		{"another first byte alone", "\x02", api.ErrForm},
		{"another first byte", "\x02" + pieceOf(5, 1, 2, "a")[1:], api.ErrForm},
		{"the first byte 255", "\xff" + pieceOf(5, 1, 2, "a")[1:], api.ErrForm},
		{"a digit as the first byte", "1" + pieceOf(5, 1, 2, "a")[1:], api.ErrForm},
		{"nothing to tell, with a byte behind", "\x00\x00", api.ErrForm},
		{"nothing to tell, with a piece behind", "\x00" + pieceOf(5, 1, 2, "a"), api.ErrForm},
		{"nothing to tell, with a piece's bytes behind", "\x00" + pieceOf(5, 1, 2, "a")[1:], api.ErrForm},
		{"no pieces", pieceOf(5, 0, 0, "a"), api.ErrForm},
		{"four pieces", pieceOf(6, 3, 4, "a"), api.ErrForm},
		{"four pieces, the first one", pieceOf(6, 0, 4, full), api.ErrForm},
		{"255 pieces", pieceOf(6, 254, 255, "a"), api.ErrForm},
		{"the place 1 of 1", pieceOf(6, 1, 1, "a"), api.ErrForm},
		{"the place 2 of 2", pieceOf(5, 2, 2, "a"), api.ErrForm},
		{"the place 2 of 2, full", pieceOf(5, 2, 2, full), api.ErrForm},
		{"the place 3 of 3", pieceOf(6, 3, 3, "a"), api.ErrForm},
		{"the place 255 of 3", pieceOf(6, 255, 3, full), api.ErrForm},
		{"the first of two, a byte too short", pieceOf(6, 0, 2, full[1:]), api.ErrForm},
		{"the first of two, a byte too long", pieceOf(6, 0, 2, full+"a"), api.ErrForm},
		{"the first of two, of one byte", pieceOf(6, 0, 2, "a"), api.ErrForm},
		{"the first of three, a byte too short", pieceOf(6, 0, 3, full[1:]), api.ErrForm},
		{"the second of three, a byte too short", pieceOf(6, 1, 3, full[1:]), api.ErrForm},
		{"the second of three, a byte too long", pieceOf(6, 1, 3, full+"a"), api.ErrForm},
		{"the last of one, a byte too long", pieceOf(6, 0, 1, full+"a"), api.ErrForm},
		{"the last of two, a byte too long", pieceOf(5, 1, 2, full+"a"), api.ErrForm},
		{"the last of three, a byte too long", pieceOf(6, 2, 3, full+"a"), api.ErrForm},
		{"the last of three, twice too long", pieceOf(6, 2, 3, full+full), api.ErrForm},
		{"another count, fewer", pieceOf(5, 0, 1, "a"), api.ErrForm},
		{"another count, more", pieceOf(5, 1, 3, full), api.ErrForm},
		{"another count, at a place that came", pieceOf(5, 0, 3, full), api.ErrForm},
		{"one that came, of other length", pieceOf(5, 0, 2, full[1:]), api.ErrForm},
		{"one that came", pieceOf(5, 0, 2, some(512, 9)), api.ErrTwice},
		{"one that came, with other bytes", pieceOf(5, 0, 2, full), api.ErrTwice},
	}
	j := &Joiner{}
	takes(t, j, pieceOf(5, 0, 2, some(512, 9)), "", false, api.OK, 1)
	for _, row := range table {
		text, whole, errno := j.Take(row.s)
		if text != "" || whole || errno != row.want || j.Held() != 1 {
			t.Errorf("%s: Take = %.20q, %v, %d, with %d held; wanted %d", row.name, text, whole, errno, j.Held(), row.want)
		}
		// Of a zero one the same, but for what hangs on pieces that came.
		z := &Joiner{}
		text, whole, errno = z.Take(row.s)
		if fits := row.want == api.ErrTwice || strings.HasPrefix(row.name, "another count"); !fits && (text != "" || whole || errno != row.want || z.Held() != 0) {
			t.Errorf("%s: Take of a zero one = %.20q, %v, %d, with %d held; wanted %d", row.name, text, whole, errno, z.Held(), row.want)
		}
	}
	// What was refused changed nothing.
	takes(t, j, pieceOf(5, 1, 2, "a"), some(512, 9)+"a", true, api.OK, 0)
}

func TestTakeOfAllCountsAndPlaces(t *testing.T) {
	for count := range 256 {
		for place := range 256 {
			for _, n := range []int{1, 511, 512, 513} {
				want := api.ErrForm
				if count >= 1 && count <= 3 && place < count && (n == 512 || place == count-1 && n < 512) {
					want = api.OK
				}
				j := &Joiner{}
				text, whole, errno := j.Take(pieceOf(1, place, count, some(n, 1)))
				right := errno == want && whole == (want == api.OK && count == 1) && (len(text) == n) == whole
				if held := j.Held(); !right || held != 0 && (want != api.OK || whole) || held != 1 && want == api.OK && !whole {
					t.Fatalf("Take of the place %d of %d, %d bytes = %d bytes, %v, %d, with %d held", place, count, n, len(text), whole, errno, held)
				}
			}
		}
	}
}

func TestTakeOfAllLengths(t *testing.T) {
	for n := range 600 {
		s := pieceOf(1, 0, 1, some(n, n))
		switch {
		case n == 0:
			takes(t, &Joiner{}, s, "", false, api.ErrShort, 0)
		case n <= 512:
			takes(t, &Joiner{}, s, some(n, n), true, api.OK, 0)
		default:
			takes(t, &Joiner{}, s, "", false, api.ErrForm, 0)
		}
	}
	for n := range 8 {
		takes(t, &Joiner{}, ("\x01" + some(7, 3))[:n], "", false, api.ErrShort, 0)
	}
	takes(t, &Joiner{}, pieceOf(1, 0, 1, some(1<<16+512, 1)), "", false, api.ErrForm, 0)
}

func TestTakeOfAllFirstBytes(t *testing.T) {
	for first := range 256 {
		for _, behind := range []string{"", "a", pieceOf(1, 0, 1, "")[1:], pieceOf(1, 0, 1, "a")[1:], pieceOf(1, 0, 1, some(512, 1))[1:]} {
			s := string([]byte{byte(first)}) + behind
			switch {
			case first == 0 && behind == "":
				takes(t, &Joiner{}, s, "", false, api.OK, 0)
			case first == 1 && len(s) < 8:
				takes(t, &Joiner{}, s, "", false, api.ErrShort, 0)
			case first == 1:
				takes(t, &Joiner{}, s, s[7:], true, api.OK, 0)
			default:
				takes(t, &Joiner{}, s, "", false, api.ErrForm, 0)
			}
		}
	}
}

func TestTakeOfNothingToTell(t *testing.T) {
	j, text := &Joiner{}, some(1300, 1)
	for i, s := range cut(1, text) {
		takes(t, j, Idle(), "", false, api.OK, min(i, 1))
		if i < 2 {
			takes(t, j, s, "", false, api.OK, 1)
		} else {
			takes(t, j, s, text, true, api.OK, 0)
		}
	}
	takes(t, j, Idle(), "", false, api.OK, 0)
}

// orders answers all orders of the numbers below n.
func orders(n int) [][]int {
	if n == 0 {
		return [][]int{nil}
	}
	var out [][]int
	for _, l := range orders(n - 1) {
		for at := range n {
			out = append(out, slices.Insert(slices.Clone(l), at, n-1))
		}
	}
	return out
}

// Pieces of a text, in whatever order, are the text, once.
func TestPiecesInAllOrders(t *testing.T) {
	j := &Joiner{}
	for n := 1; n <= 1536; n++ {
		text := some(n, n)
		pieces, _ := Cut(uint32(n)<<20|uint32(n), text)
		for _, order := range orders(len(pieces)) {
			for i, at := range order[:len(order)-1] {
				takes(t, j, pieces[at], "", false, api.OK, 1)
				for _, came := range order[:i+1] {
					takes(t, j, pieces[came], "", false, api.ErrTwice, 1)
				}
			}
			takes(t, j, pieces[order[len(order)-1]], text, true, api.OK, 0)
		}
	}
}

func TestPiecesOfTextsAmongEachOther(t *testing.T) {
	draw := rand.New(rand.NewSource(8))
	for range 300 {
		j := &Joiner{}
		texts := map[string]int{}
		var pieces []string
		for i := range 8 {
			text := some(1+draw.Intn(1536), i+1)
			texts[text] = 0
			pieces = append(pieces, cut(draw.Uint32()<<3|uint32(i), text)...)
		}
		draw.Shuffle(len(pieces), func(a, b int) { pieces[a], pieces[b] = pieces[b], pieces[a] })
		for _, s := range pieces {
			if text, whole, errno := j.Take(s); errno != api.OK {
				t.Fatalf("Take(%.12q) = %d", s, errno)
			} else if whole {
				texts[text]++
			}
		}
		for text, times := range texts {
			if times != 1 {
				t.Fatalf("a text of %d bytes came %d times", len(text), times)
			}
		}
		if len(texts) != 8 || j.Held() != 0 {
			t.Fatalf("%d texts, %d held", len(texts), j.Held())
		}
	}
}

// A text that went is none that it has: its number is free, under any count.
func TestNumbersComeAgain(t *testing.T) {
	j := &Joiner{}
	for _, n := range []int{600, 600, 1, 1, 1536, 700, 1536, 512, 513} {
		text := some(n, n)
		pieces := cut(3, text)
		last := len(pieces) - 1
		for _, s := range pieces[:last] {
			takes(t, j, s, "", false, api.OK, 1)
		}
		takes(t, j, pieces[last], text, true, api.OK, 0)
	}
}

// Numbers that are alike but for one byte are texts of their own.
func TestNumbersNearby(t *testing.T) {
	for bit := range 32 {
		j, text, other := &Joiner{}, some(900, 1), some(900, 2)
		number := uint32(0x12345678)
		a, b := cut(number, text), cut(number^1<<bit, other)
		takes(t, j, a[0], "", false, api.OK, 1)
		takes(t, j, b[1], "", false, api.OK, 2)
		takes(t, j, b[0], other, true, api.OK, 1)
		takes(t, j, a[1], text, true, api.OK, 0)
	}
}

// first answers the first one of two pieces, under the number.
func first(n uint32) string { return pieceOf(n, 0, 2, some(512, int(n))) }

func second(n uint32) string { return pieceOf(n, 1, 2, some(3, int(n))) }

func both(n uint32) string { return some(512, int(n)) + some(3, int(n)) }

func TestTheNinthText(t *testing.T) {
	j := &Joiner{}
	for n := range uint32(8) {
		takes(t, j, first(n), "", false, api.OK, int(n)+1)
	}
	// None went as yet.
	for n := range uint32(8) {
		takes(t, j, first(n), "", false, api.ErrTwice, 8)
	}
	takes(t, j, first(8), "", false, api.OK, 8)
	// The first one went; its second piece begins it anew, and the next one goes.
	takes(t, j, second(0), "", false, api.OK, 8)
	takes(t, j, second(1), "", false, api.OK, 8)
	for n := uint32(3); n < 9; n++ {
		takes(t, j, second(n), both(n), true, api.OK, 10-int(n))
	}
	takes(t, j, first(0), both(0), true, api.OK, 1)
	takes(t, j, first(1), both(1), true, api.OK, 0)
}

// The one whose first piece came first goes, whenever its other pieces came, and whatever its number is.
func TestWhichTextGoes(t *testing.T) {
	j := &Joiner{}
	numbers := []uint32{40, 7, math.MaxUint32, 0, 300, 1 << 31, 2, 41}
	three := func(n uint32, place int) string { return pieceOf(n, place, 3, some(512, int(n)+place)) }
	for i, n := range numbers {
		takes(t, j, three(n, 1), "", false, api.OK, i+1)
	}
	// The first one's next piece comes last of all: it goes nevertheless.
	takes(t, j, three(40, 0), "", false, api.OK, 8)
	takes(t, j, three(1000, 2), "", false, api.OK, 8)
	takes(t, j, three(40, 2), "", false, api.OK, 8) // this begins it anew, and 7 goes
	for _, n := range append(numbers[2:], 40) {
		place := 0
		if n == 40 {
			place = 1
		}
		takes(t, j, three(n, place), "", false, api.OK, 8)
	}
	takes(t, j, three(1000, 2), "", false, api.ErrTwice, 8)
	takes(t, j, three(7, 1), "", false, api.OK, 8) // and 2^32 - 1 goes
	takes(t, j, three(0, 2), some(512, 0)+some(512, 1)+some(512, 2), true, api.OK, 7)
	takes(t, j, three(math.MaxUint32, 2), "", false, api.OK, 8)
	takes(t, j, three(300, 2), some(512, 300)+some(512, 301)+some(512, 302), true, api.OK, 7)
}

// A text that went as a whole, out of the midst, leaves the others' order as it was.
func TestTheOrderBehindTextsThatWent(t *testing.T) {
	for gone := range uint32(8) {
		j := &Joiner{}
		for n := range uint32(8) {
			takes(t, j, first(n), "", false, api.OK, int(n)+1)
		}
		takes(t, j, second(gone), both(gone), true, api.OK, 7)
		takes(t, j, first(gone), "", false, api.OK, 8) // it is the youngest one now
		next := uint32(8)
		for n := range uint32(8) {
			if n == gone {
				continue
			}
			takes(t, j, first(n), "", false, api.ErrTwice, 8)
			takes(t, j, first(next), "", false, api.OK, 8) // n goes
			next++
		}
		takes(t, j, first(gone), "", false, api.ErrTwice, 8)
		for n := range uint32(8) {
			if n != gone {
				takes(t, j, second(n), "", false, api.OK, 8)
			}
		}
		takes(t, j, second(gone), "", false, api.OK, 8) // it went, too
	}
}

// A text of one piece is kept like any other, before it goes: beside eight, the first one goes for it.
func TestTheNinthTextOfOnePiece(t *testing.T) {
	j := &Joiner{}
	for n := range uint32(8) {
		takes(t, j, first(n), "", false, api.OK, int(n)+1)
	}
	takes(t, j, pieceOf(100, 0, 1, "a"), "a", true, api.OK, 7)
	takes(t, j, pieceOf(101, 0, 1, "b"), "b", true, api.OK, 7)
	takes(t, j, second(1), both(1), true, api.OK, 6)
	takes(t, j, second(0), "", false, api.OK, 7)
}

// What is refused lets no text go, though there are eight.
func TestRefusedBesideEight(t *testing.T) {
	j := &Joiner{}
	for n := range uint32(8) {
		takes(t, j, first(n), "", false, api.OK, int(n)+1)
	}
	takes(t, j, pieceOf(9, 0, 2, "a"), "", false, api.ErrForm, 8)
	takes(t, j, pieceOf(9, 0, 2, ""), "", false, api.ErrShort, 8)
	takes(t, j, pieceOf(3, 0, 1, "a"), "", false, api.ErrForm, 8)
	takes(t, j, first(3), "", false, api.ErrTwice, 8)
	takes(t, j, Idle(), "", false, api.OK, 8)
	for n := range uint32(8) {
		takes(t, j, second(n), both(n), true, api.OK, 7-int(n))
	}
}

// model is a joiner by the chapter's words, once more: a list of texts, the eldest one ahead.
type model []struct {
	number uint32
	bodies []string // "" where none came
}

func (m *model) take(s string) (string, bool, api.Errno) {
	b := []byte(s)
	if len(b) == 0 || b[0] == 1 && len(b) < 8 {
		return "", false, api.ErrShort
	}
	if b[0] > 1 || b[0] == 0 && len(b) > 1 {
		return "", false, api.ErrForm
	}
	if b[0] == 0 {
		return "", false, api.OK
	}
	number, place, count, body := binary.BigEndian.Uint32(b[1:5]), int(b[5]), int(b[6]), string(b[7:])
	if count == 0 || count > 3 || place >= count || place < count-1 && len(body) != 512 || len(body) > 512 {
		return "", false, api.ErrForm
	}
	at := -1
	for i, x := range *m {
		if x.number == number {
			at = i
		}
	}
	if at >= 0 && len((*m)[at].bodies) != count {
		return "", false, api.ErrForm
	}
	if at >= 0 && (*m)[at].bodies[place] != "" {
		return "", false, api.ErrTwice
	}
	if at < 0 {
		if len(*m) == 8 {
			*m = slices.Delete(*m, 0, 1)
		}
		at = len(*m)
		*m = append(*m, struct {
			number uint32
			bodies []string
		}{number, make([]string, count)})
	}
	(*m)[at].bodies[place] = body
	if slices.Contains((*m)[at].bodies, "") {
		return "", false, api.OK
	}
	text := strings.Join((*m)[at].bodies, "")
	*m = slices.Delete(*m, at, at+1)
	return text, true, api.OK
}

// drawn answers any piece: right ones under few numbers for the most part, and spoilt ones.
func drawn(draw *rand.Rand) string {
	count := 1 + draw.Intn(3)
	if draw.Intn(4) > 0 {
		count = 3
	}
	place := draw.Intn(count)
	n := 512
	if place == count-1 {
		n = 1 + draw.Intn(512)
	}
	s := pieceOf(uint32(draw.Intn(12)), place, count, some(n, draw.Intn(1000)))
	switch draw.Intn(40) {
	case 0:
		return s[:draw.Intn(len(s))]
	case 1:
		return s + "a"
	case 2:
		b := []byte(s)
		b[draw.Intn(8)] = byte(draw.Intn(6))
		return string(b)
	case 3:
		return Idle()
	}
	return s
}

func TestTakeAgainstTheModel(t *testing.T) {
	draw := rand.New(rand.NewSource(26))
	for range 60 {
		j, m := &Joiner{}, &model{}
		for range 1000 {
			s := drawn(draw)
			text, whole, errno := m.take(s)
			takes(t, j, s, text, whole, errno, len(*m))
		}
	}
}

func TestHeldOfAZeroJoiner(t *testing.T) {
	var j Joiner
	if (&j).Held() != 0 {
		t.Errorf("Held = %d", (&j).Held())
	}
}

// borrowed answers a text that goes along with the bytes: what keeps it is seen to change.
func borrowed(b []byte) string { return unsafe.String(&b[0], len(b)) }

func TestNothingHandedInIsKept(t *testing.T) {
	text := some(1400, 1)
	j := &Joiner{}
	for i, s := range cut(1, text) {
		b := []byte(s)
		x, whole, errno := j.Take(borrowed(b))
		if string(b) != s || errno != api.OK {
			t.Errorf("Take: %d, or its argument changed", errno)
		}
		clear(b)
		if whole != (i == 2) || whole && x != text {
			t.Errorf("the text is another one: %v", whole)
		}
	}
	b := []byte(pieceOf(1, 0, 1, "a text"))
	one, _, _ := j.Take(borrowed(b))
	clear(b)
	b = []byte(laid(7, "sixteen bytes ..and more"))
	g, _ := Parse(borrowed(b))
	clear(b)
	b = []byte("\x01" + some(48, 1))
	h, _ := Parse(borrowed(b))
	clear(b)
	b = []byte("a text")
	pieces, _ := Cut(7, borrowed(b))
	clear(b)
	b = []byte(some(48, 2))
	s, _ := Print(Gram{Kind: 2, Body: borrowed(b)})
	clear(b)
	if one != "a text" || g.Body != "sixteen bytes ..and more" || h.Body != some(48, 1) || !slices.Equal(pieces, cut(7, "a text")) || s != "\x02"+some(48, 2) {
		t.Errorf("an answer went along with an argument: %q, %q, %q, %q, %q", one, g.Body, h.Body, pieces, s)
	}
}

func TestListsAreNewMemory(t *testing.T) {
	text := some(1400, 1)
	a, _ := Cut(1, text)
	b, _ := Cut(1, text)
	all := a[:cap(a)]
	for i := range all {
		all[i] = "changed"
	}
	c, _ := Cut(1, text)
	if !slices.Equal(b, cut(1, text)) || !slices.Equal(c, b) {
		t.Error("two answers of Cut share memory")
	}
}

// Joiners share nothing: pieces of one text at two of them are no text.
func TestJoinersShareNothing(t *testing.T) {
	a, b := &Joiner{}, &Joiner{}
	takes(t, a, first(1), "", false, api.OK, 1)
	takes(t, b, second(1), "", false, api.OK, 1)
	takes(t, a, second(1), both(1), true, api.OK, 0)
	takes(t, b, first(1), both(1), true, api.OK, 0)
}

func TestAnswersHangOnArgumentsAlone(t *testing.T) {
	draws := func() ([]string, []byte) {
		draw := rand.New(rand.NewSource(5))
		j := &Joiner{}
		var pieces []string
		var told bytes.Buffer
		for i := range 3000 {
			s := drawn(draw)
			text, whole, errno := j.Take(s)
			g, parsed := Parse(laid(uint64(i), s))
			printed, e := Print(g)
			fmt.Fprintln(&told, text, whole, errno, j.Held(), g, parsed, printed, e)
			list, _ := Cut(uint32(i), s)
			pieces = append(pieces, list...)
		}
		return pieces, told.Bytes()
	}
	pieces, told := draws()
	for range 3 {
		if p, x := draws(); !slices.Equal(p, pieces) || !bytes.Equal(x, told) {
			t.Fatal("the same calls answer otherwise")
		}
	}
}

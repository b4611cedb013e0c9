package oct

import (
	"encoding/binary"
	"fmt"
	"math"
	"math/big"
	"net"
	"net/netip"
	"regexp"
	"slices"
	"strings"
	"testing"

	"causey/api"
)

// some answers n bytes, unlike for each seed.
func some(n, seed int) string {
	out := make([]byte, n)
	for i := range out {
		out[i] = byte(i*i + i/64*31 + (i+1)*seed + seed*seed/7 + seed>>8*(i+3))
	}
	return string(out)
}

func macOf(seed int) api.Mac { return api.Mac([]byte(some(6, seed))) }

func ipOf(seed int) [4]byte { return [4]byte([]byte(some(4, seed))) }

// edges are numbers about those that have a byte more than the one below.
func edges() []int {
	out := []int{math.MinInt, math.MinInt + 1, math.MaxInt - 1, math.MaxInt}
	for bit := range 63 {
		for off := -2; off <= 2; off++ {
			out = append(out, 1<<bit+off, -(1<<bit)+off)
		}
	}
	return out
}

// 7.1: numbers.

// wanted answers a number's bytes by the library, or nothing.
func wanted(n, size int) string {
	if n < 0 || big.NewInt(int64(n)).BitLen() > 8*size {
		return ""
	}
	return string(big.NewInt(int64(n)).FillBytes(make([]byte, size)))
}

func sameBytes(t *testing.T, n int) {
	t.Helper()
	if got, want := Two(n), wanted(n, 2); got != want {
		t.Fatalf("Two(%d) = %x, want %x", n, got, want)
	}
	if got, want := Four(n), wanted(n, 4); got != want {
		t.Fatalf("Four(%d) = %x, want %x", n, got, want)
	}
}

func TestTwoAndFourOfKnownNumbers(t *testing.T) {
	for _, c := range []struct {
		n         int
		two, four string
	}{
		{0, "\x00\x00", "\x00\x00\x00\x00"},
		{1, "\x00\x01", "\x00\x00\x00\x01"},
		{255, "\x00\xff", "\x00\x00\x00\xff"},
		{256, "\x01\x00", "\x00\x00\x01\x00"},
		{258, "\x01\x02", "\x00\x00\x01\x02"},
		{65535, "\xff\xff", "\x00\x00\xff\xff"},
		{65536, "", "\x00\x01\x00\x00"},
		{0x01020304, "", "\x01\x02\x03\x04"},
		{1<<31 - 1, "", "\x7f\xff\xff\xff"},
		{1 << 31, "", "\x80\x00\x00\x00"},
		{1<<32 - 1, "", "\xff\xff\xff\xff"},
		{1 << 32, "", ""},
		{1<<32 + 5, "", ""},
		{1 << 48, "", ""},
		{math.MaxInt, "", ""},
		{-1, "", ""},
		{-65536, "", ""},
		{-(1 << 32), "", ""},
		{math.MinInt, "", ""},
	} {
		if got := Two(c.n); got != c.two {
			t.Errorf("Two(%d) = %x, want %x", c.n, got, c.two)
		}
		if got := Four(c.n); got != c.four {
			t.Errorf("Four(%d) = %x, want %x", c.n, got, c.four)
		}
	}
}

func TestTwoOfAll(t *testing.T) {
	for n := -70000; n < 140000; n++ {
		sameBytes(t, n)
	}
}

func TestTwoAndFourOfEdges(t *testing.T) {
	for _, n := range edges() {
		sameBytes(t, n)
	}
}

func TestFourOfMany(t *testing.T) {
	for n := 0; n < 1<<32+1<<20; n += 49999 {
		sameBytes(t, n)
	}
}

func TestNumberOfKnownBytes(t *testing.T) {
	for _, c := range []struct {
		s    string
		want int
	}{
		{"", 0},
		{"\x00", 0},
		{"\x05", 5},
		{"\xff", 255},
		{"\x01\x02", 258},
		{"\x00\x00\x01", 1},
		{"\x01\x00\x00", 65536},
		{"\x80\x00\x00\x00", 1 << 31},
		{"\xff\xff\xff\xff", 1<<32 - 1},
		{"\x01\x02\x03\x04\x05", 0x0102030405},
		{"\x01\x02\x03\x04\x05\x06", 0x010203040506},
		{"\x01\x02\x03\x04\x05\x06\x07", 0x01020304050607},
		{"\x00\x00\x00\x00\x00\x00\x00", 0},
		{"\xff\xff\xff\xff\xff\xff\xff", 1<<56 - 1},
		{"7", 55},
	} {
		if got, errno := Number(c.s); got != c.want || errno != api.OK {
			t.Errorf("Number(%x) = %d, %d, want %d", c.s, got, errno, c.want)
		}
	}
}

func TestNumberOfAllLengths(t *testing.T) {
	for n := range 300 {
		for _, s := range []string{some(n, n+3), strings.Repeat("\x00", n), strings.Repeat("\xff", n)} {
			want, wantErrno := int(new(big.Int).SetBytes([]byte(s[:min(n, 7)])).Int64()), api.OK
			if n > 7 {
				want, wantErrno = 0, api.ErrArg
			}
			if got, errno := Number(s); got != want || errno != wantErrno {
				t.Errorf("Number(%x) = %d, %d, want %d, %d", s, got, errno, want, wantErrno)
			}
		}
	}
}

// 7.2: addresses as texts.

// The chapter's example.
func TestMacTextOfTheExample(t *testing.T) {
	if got := MacText(api.Mac{0, 1, 2, 3, 4, 255}); got != "00:01:02:03:04:ff" {
		t.Errorf("MacText = %q", got)
	}
}

// Each byte at each place.
func TestMacsOfAllBytes(t *testing.T) {
	for at := range 6 {
		for b := range 256 {
			m := macOf(at)
			m[at] = byte(b)
			sameMac(t, m)
		}
	}
}

func TestManyMacs(t *testing.T) {
	for seed := range 5000 {
		sameMac(t, macOf(seed))
	}
	sameMac(t, api.Mac{})
	sameMac(t, api.Mac{255, 255, 255, 255, 255, 255})
}

// sameMac holds MacText and ReadMac against the library.
func sameMac(t *testing.T, m api.Mac) {
	t.Helper()
	want := net.HardwareAddr(m[:]).String()
	if got := MacText(m); got != want {
		t.Fatalf("MacText(%x) = %q, want %q", m, got, want)
	}
	if got, errno := ReadMac(want); got != m || errno != api.OK {
		t.Fatalf("ReadMac(%q) = %x, %d, want %x", want, got, errno, m)
	}
}

// Each byte at each place.
func TestIpsOfAllBytes(t *testing.T) {
	for at := range 4 {
		for b := range 256 {
			a := ipOf(at)
			a[at] = byte(b)
			sameIp(t, a)
		}
	}
}

func TestManyIps(t *testing.T) {
	for seed := range 5000 {
		sameIp(t, ipOf(seed))
	}
	sameIp(t, [4]byte{})
	sameIp(t, [4]byte{255, 255, 255, 255})
	if got := IpText([4]byte{10, 0, 200, 255}); got != "10.0.200.255" {
		t.Errorf("IpText = %q", got)
	}
}

// sameIp holds IpText and ReadIp against the library.
func sameIp(t *testing.T, a [4]byte) {
	t.Helper()
	want := netip.AddrFrom4(a).String()
	if got := IpText(a); got != want {
		t.Fatalf("IpText(%d) = %q, want %q", a, got, want)
	}
	if got, errno := ReadIp(want); got != a || errno != api.OK {
		t.Fatalf("ReadIp(%q) = %d, %d, want %d", want, got, errno, a)
	}
}

// The patterns say once more what a text of an address is.
var (
	macPattern = regexp.MustCompile(`\A[0-9a-f]{2}(:[0-9a-f]{2}){5}\z`)
	ipPattern  = regexp.MustCompile(`\A(25[0-5]|2[0-4][0-9]|1[0-9][0-9]|[1-9]?[0-9])(\.(25[0-5]|2[0-4][0-9]|1[0-9][0-9]|[1-9]?[0-9])){3}\z`)
)

// readsMac holds ReadMac against the pattern and, where that lets a text be, against the library.
func readsMac(t *testing.T, s string) {
	t.Helper()
	want, wantErrno := api.Mac{}, api.ErrForm
	if macPattern.MatchString(s) {
		address, err := net.ParseMAC(s)
		if err != nil {
			t.Fatal(err)
		}
		want, wantErrno = api.Mac(address), api.OK
	}
	if got, errno := ReadMac(s); got != want || errno != wantErrno {
		t.Fatalf("ReadMac(%q) = %x, %d, want %x, %d", s, got, errno, want, wantErrno)
	}
}

// readsIp holds ReadIp against the pattern and, where that lets a text be, against the library.
func readsIp(t *testing.T, s string) {
	t.Helper()
	want, wantErrno := [4]byte{}, api.ErrForm
	if ipPattern.MatchString(s) {
		want, wantErrno = netip.MustParseAddr(s).As4(), api.OK
	}
	if got, errno := ReadIp(s); got != want || errno != wantErrno {
		t.Fatalf("ReadIp(%q) = %d, %d, want %d, %d", s, got, errno, want, wantErrno)
	}
}

func TestReadMacOfOtherTexts(t *testing.T) {
	for _, s := range []string{
		"", ":", ":::::", "::::::", "0", "00", "00:", ":00",
		"00:01:02:03:04", "00:01:02:03:04:", ":00:01:02:03:04", "00:01:02:03:04:05:", ":00:01:02:03:04:05",
		"00:01:02:03:04:05:06", "00:01:02:03:04:05:06:07", "00:01::03:04:05", "00:01:02::03:04:05",
		"0:01:02:03:04:05", "00:01:02:03:04:5", "000:01:02:03:04:05", "00:01:02:03:04:005", "00:1:002:03:04:05",
		"00:01:02:03:04:FF", "00:01:02:03:04:fF", "00:01:02:03:04:Ff", "AA:BB:CC:DD:EE:FF",
		"00:01:02:03:04:0g", "00:01:02:03:04:g0", "00:01:02:03:04:/0", "00:01:02:03:04::0", "00:01:02:03:04:`0", "00:01:02:03:04:@0",
		"00:01:02:03:04:+5", "00:01:02:03:04:-5", "00:01:02:03:04:-0", "00:01:02:03:04:0x", "00:01:02:03:04:x0", "00:01:02:03:04:_5", "00:01:02:03:04:5_",
		"00:01:02:03:04:0x05", "0x00:01:02:03:04:05", "00:01:02:03:04:100", "00:01:02:03:04:10000000000000000ff",
		" 00:01:02:03:04:05", "00:01:02:03:04:05 ", "00:01:02:03:04:05\n", "00:01:02:03:04:05\x00", "00: 1:02:03:04:05",
		"00-01-02-03-04-05", "00:01:02:03:04-05", "000102030405", "0001.0203.0405", "00.01.02.03.04.05",
		"00:01:02:03:04:\u0660\u0661", "00:01:02:03:04:\uff10\uff11", "00\uff1a01:02:03:04:05", "1.2.3.4", "ff:ff:ff:ff:ff:fff",
	} {
		if got, errno := ReadMac(s); got != (api.Mac{}) || errno != api.ErrForm {
			t.Errorf("ReadMac(%q) = %x, %d", s, got, errno)
		}
	}
}

func TestReadIpOfOtherTexts(t *testing.T) {
	for _, s := range []string{
		"", ".", "...", "....", "1", "1.", ".1", "1.2", "1.2.3", "1.2.3.", ".1.2.3", "1.2.3.4.", ".1.2.3.4", "1.2.3.4.5", "1.2.3.4.5.6",
		"1..3.4", "1.2..4", "1..2.3.4", "1.2.3..4", "..3.4",
		"1.2.3.256", "256.2.3.4", "1.260.3.4", "1.2.300.4", "1.2.3.999", "1.2.3.1000", "1.2.3.4294967297", "1.2.3.18446744073709551617",
		"1.2.3.04", "01.2.3.4", "1.2.3.00", "1.2.3.000", "1.2.3.004", "1.002.3.4", "1.2.3.0255", "00.0.0.0", "1.2.3.00000000000000000000004",
		"1.2.3.+4", "1.2.3.-4", "1.2.3.-0", "1.2.3.+0", "+1.2.3.4", "-1.2.3.4",
		"1.2.3.4a", "1.2.3.a", "1.2.3.ff", "1.2.3.0x4", "1.2.3.0b1", "1.2.3.0o7", "1.2.3.1_0", "1.2.3._4", "1.2.3.4_", "1.2.3.1e1",
		" 1.2.3.4", "1.2.3.4 ", "1.2.3.4\n", "1.2.3.4\x00", "1. 2.3.4", "1,2,3,4", "1.2.3,4", "1:2:3:4", "1/2.3.4", "1.2.3./", "1.2.3.:",
		"1.2.3.\u0664", "1.2.3.\uff14", "1\uff0e2.3.4", "::ffff:1.2.3.4", "::1", "16909060", "00:01:02:03:04:05",
	} {
		if got, errno := ReadIp(s); got != [4]byte{} || errno != api.ErrForm {
			t.Errorf("ReadIp(%q) = %d, %d", s, got, errno)
		}
	}
}

// nearby goes through a text with a byte at each place left out, put in, or another one, and with each beginning and end of it.
func nearby(s string, check func(string)) {
	for at := range len(s) + 1 {
		check(s[:at])
		check(s[at:])
		check(s + s[:at])
		check(s[at:] + s)
		for b := range 256 {
			one := string([]byte{byte(b)})
			check(s[:at] + one + s[at:])
			if at < len(s) {
				check(s[:at] + one + s[at+1:])
			}
		}
		if at < len(s) {
			check(s[:at] + s[at+1:])
		}
	}
}

func TestReadMacOfTextsNearby(t *testing.T) {
	for _, s := range []string{"00:00:00:00:00:00", "ff:ff:ff:ff:ff:ff", "02:9a:a9:bc:de:0f", "00:01:02:03:04:ff", "12:34:56:78:90:ab"} {
		nearby(s, func(s string) { readsMac(t, s) })
	}
}

func TestReadIpOfTextsNearby(t *testing.T) {
	for _, s := range []string{"0.0.0.0", "1.2.3.4", "10.0.200.255", "255.255.255.255", "25.24.199.99", "250.9.100.49"} {
		nearby(s, func(s string) { readsIp(t, s) })
	}
}

// All parts of up to three bytes of the signs that matter, at the first and the last place.
func TestReadOfAllShortParts(t *testing.T) {
	signs := "0123456789afgAFGxXbo_+-.: \x00\xff"
	shorts := []string{""}
	for from := 0; len(shorts[from]) < 3; from++ {
		for i := range len(signs) {
			shorts = append(shorts, shorts[from]+signs[i:i+1])
		}
	}
	for _, part := range shorts {
		readsMac(t, part+":01:02:03:04:05")
		readsMac(t, "00:01:02:03:04:"+part)
		readsIp(t, part+".2.3.4")
		readsIp(t, "1.2.3."+part)
	}
}

// All numbers up to one of five digits, with noughts ahead of them, too.
func TestReadIpOfAllNumbers(t *testing.T) {
	for n := range 11000 {
		for digits := 1; digits <= 5; digits++ {
			part := fmt.Sprintf("%0*d", digits, n)
			readsIp(t, part+".0.0.0")
			readsIp(t, "1.2.3."+part)
		}
	}
}

// Each number of parts, of which but one is right.
func TestReadOfAllNumbersOfParts(t *testing.T) {
	for n := range 40 {
		readsMac(t, strings.Join(slices.Repeat([]string{"0a"}, n), ":"))
		readsIp(t, strings.Join(slices.Repeat([]string{"7"}, n), "."))
		readsMac(t, strings.Repeat(":", n))
		readsIp(t, strings.Repeat(".", n))
	}
}

func TestReadOfLongTexts(t *testing.T) {
	for _, s := range []string{
		strings.Repeat("1", 1<<22), strings.Repeat("0", 1<<22),
		strings.Repeat(":", 1<<22), strings.Repeat(".", 1<<22),
		strings.Repeat("00:", 1<<20), strings.Repeat("1.", 1<<20),
		"00:01:02:03:04:" + strings.Repeat("0", 1<<20), "1.2.3." + strings.Repeat("0", 1<<20),
		"00:01:02:03:04:05" + strings.Repeat(":", 1<<20), "1.2.3.4" + strings.Repeat(".", 1<<20),
	} {
		readsMac(t, s)
		readsIp(t, s)
	}
}

// 7.3: the sum of 16 bits, and groups.

// sameSum holds Sum16 against the chapter's words, in numbers of any size.
func sameSum(t *testing.T, s string) {
	t.Helper()
	padded := s + strings.Repeat("\x00", len(s)%2)
	sum := new(big.Int)
	for pair := range slices.Chunk([]byte(padded), 2) {
		sum.Add(sum, new(big.Int).SetBytes(pair))
	}
	whole := big.NewInt(65536)
	for sum.Cmp(whole) >= 0 {
		above, low := new(big.Int).DivMod(sum, whole, new(big.Int))
		sum.Add(above, low)
	}
	if got, want := Sum16(s), 65535-int(sum.Int64()); got != want {
		t.Fatalf("Sum16 of %d bytes (%x) = %04x, want %04x", len(s), s[:min(len(s), 80)], got, want)
	}
}

func TestSum16OfKnownTexts(t *testing.T) {
	for _, c := range []struct {
		s    string
		want int
	}{
		{"", 0xffff},
		{"\x00", 0xffff},
		{"\x00\x00", 0xffff},
		{"\x00\x00\x00", 0xffff},
		{"\x01", 0xfeff},
		{"\xff", 0x00ff},
		{"\x00\x01", 0xfffe},
		{"\x01\x00", 0xfeff},
		{"\x01\x02\x03", 0xfbfd},
		{"\xff\xff", 0},
		{"\xff\xff\xff\xff", 0},
		{"\xff\xff\x00\x01", 0xfffe},
		{"\xff\xff\xff", 0x00ff},
		{"\x80\x00\x80\x00", 0xfffe},
		{"\xff\xfe\x00\x01", 0},
		{"\xff\xfe\x00\x02", 0xfffe},
		// RFC 1071, section 3.
		{"\x00\x01\xf2\x03\xf4\xf5\xf6\xf7", 0x220d},
		// A head of IPv4, as it is often shown; with its sum in it, and without.
		{"\x45\x00\x00\x73\x00\x00\x40\x00\x40\x11\x00\x00\xc0\xa8\x00\x01\xc0\xa8\x00\xc7", 0xb861},
		{"\x45\x00\x00\x73\x00\x00\x40\x00\x40\x11\xb8\x61\xc0\xa8\x00\x01\xc0\xa8\x00\xc7", 0},
	} {
		if got := Sum16(c.s); got != c.want {
			t.Errorf("Sum16(%x) = %04x, want %04x", c.s, got, c.want)
		}
		sameSum(t, c.s)
	}
}

func TestSum16OfAllPairs(t *testing.T) {
	for n := range 65536 {
		s := string([]byte{byte(n >> 8), byte(n)})
		if got := Sum16(s); got != 65535-n {
			t.Fatalf("Sum16(%x) = %04x", s, got)
		}
	}
}

func TestSum16OfAllLengths(t *testing.T) {
	for n := range 400 {
		sameSum(t, some(n, n+1))
		sameSum(t, strings.Repeat("\xff", n))
		sameSum(t, strings.Repeat("\x80", n))
		sameSum(t, strings.Repeat("\x00", n)+"\xff")
	}
}

// Of sums that reach 16 bits just so, and of those whose first overflow makes a second one.
func TestSum16OfSumsThatOverflow(t *testing.T) {
	for n := range 300 {
		ones := strings.Repeat("\xff\xff", n)
		for _, more := range []string{"", "\x00\x00", "\x00\x01", "\xff\xfe", "\xff\xff", "\x01", "\xff", "\xff\x00", "\x00\xff"} {
			sameSum(t, ones+more)
			sameSum(t, more+ones)
		}
	}
	for off := -3; off <= 3; off++ {
		for _, sum := range []int{1 << 16, 1<<17 - 1, 1<<17 - 2, 0x2fffd, 1<<20 - 1, 0xfffff0} {
			left, s := sum+off, ""
			for left > 0 {
				pair := min(left, 65535)
				s, left = s+string([]byte{byte(pair >> 8), byte(pair)}), left-pair
			}
			sameSum(t, s)
		}
	}
}

// So long that what is added needs more than 32 bits, above which nothing may be lost.
func TestSum16OfLongTexts(t *testing.T) {
	for _, n := range []int{65535, 65536, 65537, 131071, 131072, 131073, 1 << 18, 1<<18 + 1} {
		sameSum(t, strings.Repeat("\xff", n))
		sameSum(t, strings.Repeat("\xfe", n))
		sameSum(t, some(n, n))
	}
}

func TestGroupOfAllFirstBytes(t *testing.T) {
	for b := range 256 {
		for _, left := range []api.Mac{{}, {0, 255, 255, 255, 255, 255}, {0, 0, 1, 0, 0, 0}, {0, 1, 1, 1, 1, 1}} {
			left[0] = byte(b)
			if got := Group(left); got != (b&1 == 1) {
				t.Errorf("Group(%x) = %v", left, got)
			}
		}
	}
	for _, c := range []struct {
		s    string
		want bool
	}{
		{"ff:ff:ff:ff:ff:ff", true},
		{"01:80:c2:00:00:00", true},
		{"33:33:00:00:00:01", true},
		{"02:00:00:00:00:01", false},
		{"00:00:00:00:00:00", false},
		{"fe:ff:ff:ff:ff:ff", false},
	} {
		if m, errno := ReadMac(c.s); Group(m) != c.want || errno != api.OK {
			t.Errorf("Group of %s = %v, %d", c.s, Group(m), errno)
		}
	}
}

// 7.4: there and back.

func TestWhatIsLaidIsRead(t *testing.T) {
	back := func(n int, laid string) {
		if laid == "" {
			return
		}
		if got, errno := Number(laid); got != n || errno != api.OK {
			t.Fatalf("Number(%x) = %d, %d, want %d", laid, got, errno, n)
		}
	}
	for n := range 1 << 16 {
		back(n, Two(n))
	}
	for _, n := range edges() {
		back(n, Two(n))
		back(n, Four(n))
	}
	for n := 0; n < 1<<32; n += 99991 {
		back(n, Four(n))
	}
	for seed := range 3000 {
		m, a := macOf(seed), ipOf(seed)
		if got, errno := ReadMac(MacText(m)); got != m || errno != api.OK {
			t.Fatalf("ReadMac(%q) = %x, %d", MacText(m), got, errno)
		}
		if got, errno := ReadIp(IpText(a)); got != a || errno != api.OK {
			t.Fatalf("ReadIp(%q) = %d, %d", IpText(a), got, errno)
		}
	}
}

// Whatever is read is what the address is laid as: no second text is read as the same.
func TestNothingElseIsReadAsIt(t *testing.T) {
	read := 0
	check := func(s string) {
		if m, errno := ReadMac(s); errno == api.OK {
			read++
			if MacText(m) != s {
				t.Fatalf("%q is read as %q is", s, MacText(m))
			}
		}
		if a, errno := ReadIp(s); errno == api.OK {
			read++
			if IpText(a) != s {
				t.Fatalf("%q is read as %q is", s, IpText(a))
			}
		}
	}
	for seed := range 40 {
		nearby(MacText(macOf(seed)), check)
		nearby(IpText(ipOf(seed)), check)
	}
	if read < 1000 {
		t.Errorf("only %d texts were read", read)
	}
}

// Of the texts of two bytes, and of four, just one is read as a number.
func TestNumbersOfOneLengthAreUnlike(t *testing.T) {
	for n := range 1 << 16 {
		s := string(binary.BigEndian.AppendUint16(nil, uint16(n)))
		if got, errno := Number(s); errno != api.OK || Two(got) != s {
			t.Fatalf("Number(%x) = %d, %d", s, got, errno)
		}
	}
	for n := 0; n < 1<<32; n += 99991 {
		s := string(binary.BigEndian.AppendUint32(nil, uint32(n)))
		if got, errno := Number(s); errno != api.OK || Four(got) != s {
			t.Fatalf("Number(%x) = %d, %d", s, got, errno)
		}
	}
}

func TestTextWithItsOwnSumHasTheSum0(t *testing.T) {
	check := func(s string) {
		own := Two(Sum16(s))
		if len(own) != 2 {
			t.Fatalf("Two(Sum16) of %d bytes = %x", len(s), own)
		}
		if got := Sum16(s + own); got != 0 {
			t.Fatalf("Sum16 of %d bytes and %x = %04x", len(s), own, got)
		}
	}
	for n := range 65536 {
		check(string([]byte{byte(n >> 8), byte(n)}))
	}
	for n := 0; n < 600; n += 2 {
		check(some(n, n+1))
		check(strings.Repeat("\x00", n))
		check(strings.Repeat("\xff", n))
	}
	check(some(1<<18, 5))
}

// Rules 4 and 6: answers hang on arguments alone.

func TestAnswersHangOnArgumentsAlone(t *testing.T) {
	m, a := macOf(3), ipOf(3)
	keptM, keptA := m, a
	macText, ipText, sum := MacText(m), IpText(a), Sum16(some(33, 3))
	MacText(macOf(4))
	IpText(ipOf(4))
	ReadMac("00:01:02:03:04:0g")
	ReadIp("1.2.3.256")
	Sum16(some(80, 4))
	Number("more than seven")
	if m != keptM || a != keptA {
		t.Error("what was handed in is changed")
	}
	if MacText(m) != macText || IpText(a) != ipText || Sum16(some(33, 3)) != sum {
		t.Error("answers are others behind other calls")
	}
	for range 3 {
		readsMac(t, macText)
		readsIp(t, ipText)
		readsMac(t, macText[:16])
		readsIp(t, ipText+".")
	}
}

// What goes through parts may stop at any of them, and start anew.
func TestPartsOfTexts(t *testing.T) {
	for _, c := range []struct {
		s    string
		want []string
	}{
		{"", []string{""}},
		{"a", []string{"a"}},
		{":", []string{"", ""}},
		{"a:b", []string{"a", "b"}},
		{":a::bc:", []string{"", "a", "", "bc", ""}},
	} {
		through := parts(c.s, ":")
		for stop := range len(c.want) {
			var got []string
			for part := range through {
				got = append(got, part)
				if len(got) == stop+1 {
					break
				}
			}
			if !slices.Equal(got, c.want[:stop+1]) {
				t.Errorf("the first %d parts of %q = %q", stop+1, c.s, got)
			}
		}
		if got := slices.Collect(through); !slices.Equal(got, c.want) {
			t.Errorf("parts of %q = %q", c.s, got)
		}
	}
}

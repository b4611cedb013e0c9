package poly

import (
	"encoding/hex"
	"math"
	"math/big"
	"slices"
	"strings"
	"testing"

	"causey/api"
)

const most = math.MaxUint64

// text answers n bytes, unlike for each seed.
func text(n, seed int) string {
	out := make([]byte, n)
	for i := range out {
		out[i] = byte(i*i + i/64*31 + (i+1)*seed + seed*seed/7)
	}
	return string(out)
}

func keyOf(r, s string) api.Key { return api.Key([]byte(r + s)) }

func unhex(t *testing.T, s string) string {
	t.Helper()
	out, err := hex.DecodeString(s)
	if err != nil {
		t.Fatal(err)
	}
	return string(out)
}

// The reference goes by numbers of any size.

func power(n uint) *big.Int { return new(big.Int).Lsh(big.NewInt(1), n) }

// by is what rests are taken by: 2^130 - 5.
func by() *big.Int { return new(big.Int).Sub(power(130), big.NewInt(5)) }

func bigOfBytes(s string) *big.Int {
	b := []byte(s)
	slices.Reverse(b)
	return new(big.Int).SetBytes(b)
}

func bigOfWords(l [3]uint64) *big.Int {
	n := new(big.Int)
	for _, w := range []uint64{l[2], l[1], l[0]} {
		n.Lsh(n, 64)
		n.Or(n, new(big.Int).SetUint64(w))
	}
	return n
}

func wordsOfBig(n *big.Int) [3]uint64 {
	var l [3]uint64
	for i := range l {
		shifted := new(big.Int).Rsh(n, uint(64*i))
		l[i] = shifted.And(shifted, new(big.Int).SetUint64(most)).Uint64()
	}
	return l
}

// madeZero tells of a bit of a key whether it is made 0.
func madeZero(bit int) bool {
	switch bit / 8 {
	case 3, 7, 11, 15:
		return bit%8 >= 4
	case 4, 8, 12:
		return bit%8 < 2
	}
	return false
}

func referenceClamp(k api.Key) api.Key {
	for bit := range 256 {
		if madeZero(bit) {
			k[bit/8] &^= 1 << (bit % 8)
		}
	}
	return k
}

func referenceSum(k api.Key, text string) [16]byte {
	k = referenceClamp(k)
	r, s := bigOfBytes(string(k[:16])), bigOfBytes(string(k[16:]))
	a := new(big.Int)
	for at := 0; at < len(text); at += 16 {
		a.Add(a, bigOfBytes(text[at:min(at+16, len(text))]+"\x01"))
		a.Mul(a, r)
		a.Mod(a, by())
	}
	a.Add(a, s)
	a.Mod(a, power(128))
	out := a.FillBytes(make([]byte, 16))
	slices.Reverse(out)
	return [16]byte(out)
}

func sameSum(t *testing.T, k api.Key, s string) {
	t.Helper()
	if got, want := Sum(k, s), referenceSum(k, s); got != want {
		t.Fatalf("Sum(%x, %x) = %x, want %x", k, s, got, want)
	}
}

// 4.1: sums.

func TestSumOfNoBytesIsS(t *testing.T) {
	for seed := range 50 {
		s := text(16, seed)
		for _, r := range []string{text(16, 3*seed+1), strings.Repeat("\x00", 16), strings.Repeat("\xff", 16)} {
			if got := Sum(keyOf(r, s), ""); string(got[:]) != s {
				t.Errorf("Sum(%x%x, no bytes) = %x", r, s, got)
			}
		}
	}
}

// The keys and texts of RFC 8439, 2.5.2 and A.3.
func TestSumAsPublished(t *testing.T) {
	zeros, ones := strings.Repeat("00", 16), strings.Repeat("ff", 16)
	notice := hex.EncodeToString([]byte("Any submission to the IETF intended by the Contributor for publication as all or part of an IETF Internet-Draft or RFC and any statement made within the context of an IETF activity is considered an \"IETF Contribution\". Such statements include oral statements in IETF sessions, as well as written and electronic communications made at any time or place, which are addressed to"))
	wabe := hex.EncodeToString([]byte("'Twas brillig, and the slithy toves\nDid gyre and gimble in the wabe:\nAll mimsy were the borogoves,\nAnd the mome raths outgrabe."))
	group := hex.EncodeToString([]byte("Cryptographic Forum Research Group"))
	small := func(b string) string { return b + zeros[2:] }
	split := "01000000000000000400000000000000"
	carried := "e33594d7505e43b900000000000000003394d7505e4379cd0100000000000000" + zeros
	for _, c := range []struct{ r, s, text, want string }{
		{"85d6be7857556d337f4452fe42d506a8", "0103808afb0db2fd4abff6af4149f51b", group, "a8061dc1305136c6c22b8baf0c0127a9"},
		{zeros, zeros, strings.Repeat(zeros, 4), zeros},
		{zeros, "36e5f6b5c5e06070f0efca96227a863e", notice, "36e5f6b5c5e06070f0efca96227a863e"},
		{"36e5f6b5c5e06070f0efca96227a863e", zeros, notice, "f3477e7cd95417af89a6b8794c310cf0"},
		{"1c9240a5eb55d38af333888604f6b5f0", "473917c1402b80099dca5cbc207075c0", wabe, "4541669a7eaaee61e708dc7cbcc5eb62"},
		{small("02"), zeros, ones, small("03")},
		{small("02"), ones, small("02"), small("03")},
		{small("01"), zeros, ones + "f0" + ones[2:] + small("11"), small("05")},
		{small("01"), zeros, ones + "fb" + strings.Repeat("fe", 15) + strings.Repeat("01", 16), zeros},
		{small("02"), zeros, "fd" + ones[2:], "fa" + ones[2:]},
		{split, zeros, carried + small("01"), "14000000000000005500000000000000"},
		{split, zeros, carried, small("13")},
	} {
		k, s := keyOf(unhex(t, c.r), unhex(t, c.s)), unhex(t, c.text)
		if got := Sum(k, s); hex.EncodeToString(got[:]) != c.want {
			t.Errorf("Sum(%s%s, %s) = %x, want %s", c.r, c.s, c.text, got, c.want)
		}
	}
}

func TestSumOfAllLengths(t *testing.T) {
	k := keyOf(text(16, 3), text(16, 5))
	for n := range 200 {
		for _, s := range []string{strings.Repeat("\x00", n), strings.Repeat("\xff", n), text(n, 7)} {
			sameSum(t, k, s)
			sameSum(t, keyOf(strings.Repeat("\xff", 16), text(16, n)), s)
		}
	}
}

func TestSumOfLongTexts(t *testing.T) {
	for _, n := range []int{1518, 8191, 8192, 8193, 65536, 1<<20 + 1} {
		sameSum(t, keyOf(text(16, n), text(16, n+1)), text(n, 9))
	}
}

// A last piece of fewer bytes isn't that with zero bytes behind it.
func TestSumKeepsZeroBytesBehindApart(t *testing.T) {
	k := keyOf(text(16, 3), text(16, 5))
	for _, ahead := range []string{"", "a", text(16, 9), text(29, 9)} {
		seen := map[[16]byte]int{}
		for n := range 70 {
			sum := Sum(k, ahead+strings.Repeat("\x00", n))
			if other, ok := seen[sum]; ok {
				t.Errorf("%x with %d zero bytes behind has the sum of that with %d: %x", ahead, n, other, sum)
			}
			seen[sum] = n
		}
	}
}

// The byte 1 stands right behind the bytes; behind 16 of them it is beyond what is answered.
func TestSumOfZeroBytesTakenOnce(t *testing.T) {
	k := keyOf("\x01"+strings.Repeat("\x00", 15), strings.Repeat("\x00", 16))
	for n := 1; n <= 16; n++ {
		var want [16]byte
		if n < 16 {
			want[n] = 1
		}
		if got := Sum(k, strings.Repeat("\x00", n)); got != want {
			t.Errorf("the sum of %d zero bytes, taken once, = %x, want %x", n, got, want)
		}
	}
}

// edgeBlocks answers 16 bytes at which something is carried, or nothing is.
func edgeBlocks() []string {
	zeros, ones := strings.Repeat("\x00", 8), strings.Repeat("\xff", 8)
	return []string{
		zeros + zeros, ones + ones, zeros + ones, ones + zeros,
		"\x01" + zeros[1:] + zeros, zeros[1:] + "\x80" + zeros, zeros + "\x01" + zeros[1:], zeros + zeros[1:] + "\x80",
		"\xfa" + ones[1:] + ones, "\xfb" + ones[1:] + ones, "\xfc" + ones[1:] + ones,
		zeros + zeros[1:] + "\x0f", "\x05" + zeros[1:] + zeros, text(16, 77),
	}
}

func TestSumOfEdges(t *testing.T) {
	for _, r := range edgeBlocks() {
		for _, s := range edgeBlocks() {
			k := keyOf(r, s)
			for _, first := range edgeBlocks() {
				sameSum(t, k, first)
				for _, second := range edgeBlocks() {
					sameSum(t, k, first+second)
					sameSum(t, k, first+second+first[:5])
				}
			}
		}
	}
}

// What is added at the end goes round at 2^128.
func TestSumAddsSAndGoesRound(t *testing.T) {
	one := "\x01" + strings.Repeat("\x00", 15)
	for _, c := range []struct{ text, s, want string }{
		{"\x05", strings.Repeat("\xff", 16), "\x04\x01" + strings.Repeat("\x00", 14)},
		{strings.Repeat("\xff", 16), one, strings.Repeat("\x00", 16)},
		{strings.Repeat("\xff", 16), strings.Repeat("\xff", 16), "\xfe" + strings.Repeat("\xff", 15)},
	} {
		if got := Sum(keyOf(one, c.s), c.text); string(got[:]) != c.want {
			t.Errorf("Sum of %x, once, and s %x = %x, want %x", c.text, c.s, got, c.want)
		}
	}
}

func TestSumOfManyKeys(t *testing.T) {
	for seed := range 2000 {
		sameSum(t, keyOf(text(16, seed), text(16, 5*seed+1)), text(seed%100, 3*seed))
	}
}

// Products are right of all numbers, not of those below 2^124 alone that a key's r can be.
func TestProductOfEdges(t *testing.T) {
	edges := []uint64{0, 1, most / 5, 1 << 63, most - 1, most}
	var numbers [][3]uint64
	for _, low := range edges {
		for _, mid := range edges {
			for _, high := range edges {
				numbers = append(numbers, [3]uint64{low, mid, high})
			}
		}
	}
	for _, x := range numbers {
		for _, y := range numbers {
			got := product(x, y)
			want := new(big.Int).Mul(bigOfWords(x), bigOfWords(y))
			low, high := wordsOfBig(want), wordsOfBig(want.Rsh(want, 192))
			if [3]uint64(got[:3]) != low || [3]uint64(got[3:]) != high {
				t.Fatalf("product(%x, %x) = %x, want %x %x", x, y, got, low, high)
			}
		}
	}
}

// 4.1: keys with their bits made 0.

func TestClampOfEachBit(t *testing.T) {
	for bit := range 256 {
		var one api.Key
		one[bit/8] = 1 << (bit % 8)
		want := one
		if madeZero(bit) {
			want = api.Key{}
		}
		if got := Clamp(one); got != want {
			t.Errorf("Clamp of bit %d alone = %x, want %x", bit, got, want)
		}
	}
}

func TestClampOfAllBits(t *testing.T) {
	all := keyOf(strings.Repeat("\xff", 16), strings.Repeat("\xff", 16))
	want := unhex(t, "ffffff0ffcffff0ffcffff0ffcffff0f"+strings.Repeat("ff", 16))
	if got := Clamp(all); string(got[:]) != want {
		t.Errorf("Clamp of all bits = %x, want %x", got, want)
	}
	if got := Clamp(api.Key{}); got != (api.Key{}) {
		t.Errorf("Clamp of no bits = %x", got)
	}
}

// RFC 8439, 2.5.2.
func TestClampAsPublished(t *testing.T) {
	s := unhex(t, "0103808afb0db2fd4abff6af4149f51b")
	want := unhex(t, "85d6be0854556d037c44520e40d50608") + s
	if got := Clamp(keyOf(unhex(t, "85d6be7857556d337f4452fe42d506a8"), s)); string(got[:]) != want {
		t.Errorf("Clamp = %x, want %x", got, want)
	}
}

func TestClampOfManyKeys(t *testing.T) {
	for seed := range 500 {
		k := keyOf(text(16, seed), text(16, 5*seed+1))
		got := Clamp(k)
		if got != referenceClamp(k) {
			t.Errorf("Clamp(%x) = %x", k, got)
		}
		if Clamp(got) != got {
			t.Errorf("Clamp(%x), again, is another one", k)
		}
	}
}

// 4.2: rests.

func sameRest(t *testing.T, l [3]uint64) {
	t.Helper()
	want := wordsOfBig(new(big.Int).Mod(bigOfWords(l), by()))
	if got := Rest(l); got != want {
		t.Fatalf("Rest(%x) = %x, want %x", l, got, want)
	}
}

func TestRestOfKnownNumbers(t *testing.T) {
	for _, c := range []struct{ l, want [3]uint64 }{
		{[3]uint64{}, [3]uint64{}},
		{[3]uint64{1}, [3]uint64{1}},
		{[3]uint64{most - 5, most, 3}, [3]uint64{most - 5, most, 3}}, // 2^130 - 6
		{[3]uint64{most - 4, most, 3}, [3]uint64{}},                  // 2^130 - 5
		{[3]uint64{most - 3, most, 3}, [3]uint64{1}},
		{[3]uint64{most, most, 3}, [3]uint64{4}},
		{[3]uint64{0, 0, 4}, [3]uint64{5}},                            // 2^130
		{[3]uint64{most - 9, most, 7}, [3]uint64{}},                   // 2^131 - 10
		{[3]uint64{most - 10, most, 7}, [3]uint64{most - 5, most, 3}}, // one less
		{[3]uint64{0, 0, 1 << 63}, [3]uint64{5 << 61, 0, 0}},          // 2^191 is 2^61 times 2^130
		{[3]uint64{most, most, most}, [3]uint64{1<<62 - 1, 1, 0}},     // 2^192 - 1: 5 * 2^62 - 1
	} {
		if got := Rest(c.l); got != c.want {
			t.Errorf("Rest(%x) = %x, want %x", c.l, got, c.want)
		}
	}
}

func edgeWords() []uint64 {
	return []uint64{
		0, 1, 2, 3, 4, 5, 6, 7, 8, 1<<32 - 1, 1 << 32, 1<<62 - 1, 1 << 62, 1 << 63, most / 5, most/5 + 1,
		most - 10, most - 9, most - 8, most - 6, most - 5, most - 4, most - 3, most - 1, most,
	}
}

func TestRestOfEdges(t *testing.T) {
	for _, low := range edgeWords() {
		for _, mid := range edgeWords() {
			for _, high := range edgeWords() {
				sameRest(t, [3]uint64{low, mid, high})
			}
		}
	}
}

// Numbers about multiples of 2^130 - 5, up to the greatest one of three words.
func TestRestAboutMultiples(t *testing.T) {
	greatest := new(big.Int).Div(new(big.Int).Sub(power(192), big.NewInt(1)), by())
	times := []*big.Int{big.NewInt(1), big.NewInt(2), big.NewInt(3), big.NewInt(4), big.NewInt(5), power(30), power(61), greatest}
	for seed := range 200 {
		n := bigOfBytes(text(8, seed))
		times = append(times, n.Rsh(n, 3))
	}
	for _, n := range times {
		multiple := new(big.Int).Mul(n, by())
		for off := int64(-12); off <= 12; off++ {
			sameRest(t, wordsOfBig(new(big.Int).Add(multiple, big.NewInt(off))))
		}
	}
}

// Each bit of each word has its own part in the rest.
func TestRestOfOneBit(t *testing.T) {
	for bit := range 192 {
		var l [3]uint64
		l[bit/64] = 1 << (bit % 64)
		sameRest(t, l)
		sameRest(t, wordsOfBig(new(big.Int).Sub(power(uint(bit)), big.NewInt(1))))
	}
}

func TestRestOfARestIsItself(t *testing.T) {
	for seed := range 2000 {
		l := wordsOfBig(bigOfBytes(text(24, seed)))
		sameRest(t, l)
		if rest := Rest(l); Rest(rest) != rest {
			t.Errorf("Rest(%x), again, is another one", rest)
		}
	}
}

// 4.3: keys that are the same but for bits that are made 0.

func TestBitsMadeZeroDontChangeSums(t *testing.T) {
	for seed := range 20 {
		k, s := keyOf(text(16, seed), text(16, 5*seed+1)), text(10+7*seed, 3)
		want := Sum(k, s)
		if got := Sum(Clamp(k), s); got != want {
			t.Errorf("Sum(Clamp(%x), %x) = %x, want %x", k, s, got, want)
		}
		for bit := range 256 {
			other := k
			other[bit/8] ^= 1 << (bit % 8)
			if got := Sum(other, s); (got == want) != madeZero(bit) {
				t.Errorf("with bit %d of %x another one, the sum of %x = %x, ahead of it %x", bit, k, s, got, want)
			}
		}
	}
}

// 4.3: keys whose r is 0, be it as given or as its bits are made 0.

func TestSumUnderZeroRIsS(t *testing.T) {
	zeroed := make([]byte, 16)
	for bit := range 128 {
		if madeZero(bit) {
			zeroed[bit/8] |= 1 << (bit % 8)
		}
	}
	for _, r := range []string{strings.Repeat("\x00", 16), string(zeroed)} {
		for n := range 70 {
			s := text(16, n)
			for _, about := range []string{text(n, 3), strings.Repeat("\xff", n)} {
				if got := Sum(keyOf(r, s), about); string(got[:]) != s {
					t.Errorf("Sum(%x%x, %x) = %x", r, s, about, got)
				}
			}
		}
	}
}

// Rules 4 and 6: what is handed in isn't changed, and what is answered hangs on it alone.

func TestAnswersHangOnArgumentsAlone(t *testing.T) {
	k, s, l := keyOf(text(16, 3), text(16, 5)), text(200, 3), [3]uint64{most, 7, most}
	kept, keptNumber := k, l
	sum, clamped, rest := Sum(k, s), Clamp(k), Rest(l)
	Sum(keyOf(text(16, 8), text(16, 9)), text(500, 1))
	Rest([3]uint64{1, 2, 3})
	if k != kept || l != keptNumber || s != text(200, 3) {
		t.Error("what was handed in is changed")
	}
	if Sum(k, s) != sum || Clamp(k) != clamped || Rest(l) != rest {
		t.Error("answers are others behind other calls")
	}
}

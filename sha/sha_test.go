package sha

import (
	"bytes"
	"crypto/sha256"
	"encoding/binary"
	"encoding/hex"
	"math"
	"math/big"
	"slices"
	"strings"
	"testing"
)

// varied answers a text of n bytes in which neighbours, and whole blocks, are unlike.
func varied(n int) string {
	out := make([]byte, n)
	for i := range out {
		out[i] = byte(i*7 + i/64*31 + i*i)
	}
	return string(out)
}

func sumText(s string) string {
	sum := Sum(s)
	return hex.EncodeToString(sum[:])
}

// 1.1: sums as published.

func TestSumOfTheExample(t *testing.T) {
	const want = "ba7816bf8f01cfea414140de5dae2223b00361a396177a9cb410ff61f20015ad"
	if got := sumText("abc"); got != want {
		t.Errorf("Sum(abc) = %s, want %s", got, want)
	}
}

func TestSumAtEdgesOfBlocks(t *testing.T) {
	for _, c := range []struct {
		length int
		want   string
	}{
		{0, "e3b0c44298fc1c149afbf4c8996fb92427ae41e4649b934ca495991b7852b855"},
		{1, "ca978112ca1bbdcafac231b39a23dc4da786eff8147c4e72b9807785afee48bb"},
		{3, "9834876dcfb05cb167a5c24953eba58c4ac89b1adf57f28f2f9d09af107ee8f0"},
		{55, "9f4390f8d30c2dd92ec9f095b65e2b9ae9b0a925a5258e241c9f1e910f734318"},
		{56, "b35439a4ac6f0948b6d6f9e3c6af0f5f590ce20f1bde7090ef7970686ec6738a"},
		{63, "7d3e74a05d7db15bce4ad9ec0658ea98e3f06eeecf16b4c6fff2da457ddc2f34"},
		{64, "ffe054fe7ae0cb6dc65c3af9b61d5209f439851db43d0ba5997337df154668eb"},
		{65, "635361c48bb9eab14198e76ea8ab7f1a41685d6ad62aa9146d301d4f17eb0ae0"},
		{119, "31eba51c313a5c08226adf18d4a359cfdfd8d2e816b13f4af952f7ea6584dcfb"},
		{120, "2f3d335432c70b580af0e8e1b3674a7c020d683aa5f73aaaedfdc55af904c21c"},
		{127, "c57e9278af78fa3cab38667bef4ce29d783787a2f731d4e12200270f0c32320a"},
		{128, "6836cf13bac400e9105071cd6af47084dfacad4e5e302c94bfed24e013afb73e"},
		{129, "c12cb024a2e5551cca0e08fce8f1c5e314555cc3fef6329ee994a3db752166ae"},
		{1000000, "cdc76e5c9914fb9281a1c7e284d73e67f1809a48a497200e046d39ccc7112cd0"},
	} {
		if got := sumText(strings.Repeat("a", c.length)); got != c.want {
			t.Errorf("sum of %d times a = %s, want %s", c.length, got, c.want)
		}
	}
}

func TestSumOfAllShortLengths(t *testing.T) {
	for n := range 400 {
		for _, s := range []string{varied(n), strings.Repeat("\x00", n), strings.Repeat("\xff", n)} {
			if got, want := Sum(s), sha256.Sum256([]byte(s)); got != want {
				t.Errorf("sum of %x = %x, want %x", s, got, want)
			}
		}
	}
}

func TestSumOfManyBlocks(t *testing.T) {
	for _, n := range []int{4095, 4096, 4097, 100001} {
		s := varied(n)
		if got, want := Sum(s), sha256.Sum256([]byte(s)); got != want {
			t.Errorf("sum of %d bytes = %x, want %x", n, got, want)
		}
	}
}

// 1.1: what is filled up, byte by byte.

func checkFilling(t *testing.T, length int, filling string) {
	t.Helper()
	zeros := len(filling) - 9
	if zeros < 0 || zeros > 63 {
		t.Fatalf("length %d: %d bytes are filled in", length, len(filling))
	}
	want := append([]byte{0x80}, make([]byte, zeros)...)
	want = binary.BigEndian.AppendUint64(want, 8*uint64(length))
	if !bytes.Equal([]byte(filling), want) {
		t.Errorf("length %d: filled in is %x, want %x", length, filling, want)
	}
}

func TestFillBytes(t *testing.T) {
	for n := range 300 {
		s := varied(n)
		got := Fill(s)
		if !strings.HasPrefix(got, s) {
			t.Fatalf("length %d: what is filled up doesn't begin with the text", n)
		}
		checkFilling(t, n, got[n:])
	}
	if got, want := Fill("abc"), "abc\x80"+strings.Repeat("\x00", 59)+"\x18"; got != want {
		t.Errorf("Fill(abc) = %x, want %x", got, want)
	}
}

func TestFillingOfGreatLengths(t *testing.T) {
	for _, n := range []int{1<<13 - 1, 1 << 13, 1<<29 - 1, 1 << 29, 1<<29 + 56, 1<<31 - 1} {
		filling := filling(n)
		checkFilling(t, n, filling)
		if (uint64(n)+uint64(len(filling)))%64 != 0 {
			t.Errorf("length %d: no multiple of 64 with %d more", n, len(filling))
		}
	}
}

// 1.1: one block.

func TestBlockOfFewerBytes(t *testing.T) {
	h := [8]uint32{1, 2, 3, 4, 5, 6, 7, math.MaxUint32}
	for _, n := range []int{0, 1, 4, 55, 63} {
		if got := Block(h, varied(n)); got != h {
			t.Errorf("Block of %d bytes = %x, want what was handed in", n, got)
		}
	}
}

func TestBlockOfMoreBytes(t *testing.T) {
	h := firstWords()
	s := varied(300)
	want := Block(h, s[:64])
	if want == h {
		t.Fatal("Block of 64 bytes changes nothing")
	}
	for _, n := range []int{65, 127, 128, 300} {
		if got := Block(h, s[:n]); got != want {
			t.Errorf("Block of %d bytes = %x, want %x", n, got, want)
		}
	}
}

func TestBlockKeepsItsArgument(t *testing.T) {
	h := firstWords()
	Block(h, varied(64))
	if h != firstWords() {
		t.Errorf("the words handed in are changed to %x", h)
	}
}

func TestBlockByBlockIsTheSum(t *testing.T) {
	for _, n := range []int{0, 3, 55, 56, 64, 119, 120, 200} {
		s := varied(n)
		h := firstWords()
		for rest := Fill(s); rest != ""; rest = rest[64:] {
			h = Block(h, rest)
		}
		var got [32]byte
		for i, x := range h {
			binary.BigEndian.PutUint32(got[4*i:], x)
		}
		if want := sha256.Sum256([]byte(s)); got != want {
			t.Errorf("length %d: block by block %x, want %x", n, got, want)
		}
	}
}

func firstWords() [8]uint32 {
	var h [8]uint32
	for i, p := range Primes(8) {
		h[i] = Root(p, 2)
	}
	return h
}

func TestConstantsAreCubeRoots(t *testing.T) {
	for i, p := range Primes(64) {
		if got, want := constants[i], Root(p, 3); got != want {
			t.Errorf("constant %d = %x, want %x", i, got, want)
		}
	}
}

// 1.2: primes.

func primesBelow(n int) []int {
	var out []int
	for p := 2; p < n; p++ {
		if big.NewInt(int64(p)).ProbablyPrime(0) {
			out = append(out, p)
		}
	}
	return out
}

func TestPrimes(t *testing.T) {
	all := primesBelow(542)
	if len(all) != 100 {
		t.Fatalf("%d primes up to 541", len(all))
	}
	for n := 0; n <= 100; n++ {
		if got := Primes(n); !slices.Equal(got, all[:n]) {
			t.Errorf("Primes(%d) = %v, want %v", n, got, all[:n])
		}
	}
	if p := Primes(64); p[0] != 2 || p[63] != 311 {
		t.Errorf("Primes(64) is from %d to %d", p[0], p[63])
	}
	if p := Primes(100); p[99] != 541 {
		t.Errorf("Primes(100) ends with %d", p[99])
	}
}

func TestPrimesOutside(t *testing.T) {
	for _, n := range []int{math.MinInt, -100, -1, 101, 1000, math.MaxInt} {
		if got := Primes(n); len(got) != 0 {
			t.Errorf("Primes(%d) = %v, want nothing", n, got)
		}
	}
}

func TestPrimesAreNewMemory(t *testing.T) {
	spoilt := Primes(10)
	clear(spoilt[:cap(spoilt)])
	if got := Primes(10); got[0] != 2 || got[9] != 29 {
		t.Errorf("Primes(10) = %v behind an answer that was changed", got)
	}
}

// 1.2: roots.

// isRoot asks whether r is the greatest number whose power, shifted by 32 bits a factor, is at most n.
func isRoot(r *big.Int, n, power int) bool {
	p := big.NewInt(int64(power))
	limit := new(big.Int).Lsh(big.NewInt(int64(n)), uint(32*power))
	next := new(big.Int).Add(r, big.NewInt(1))
	return new(big.Int).Exp(r, p, nil).Cmp(limit) <= 0 && next.Exp(next, p, nil).Cmp(limit) > 0
}

func wholeRoot(n, power int) int64 {
	r := int64(0)
	for math.Pow(float64(r+1), float64(power)) <= float64(n) {
		r++
	}
	return r
}

func TestRootOfAll(t *testing.T) {
	for n := 0; n <= 1000; n++ {
		for _, power := range []int{2, 3} {
			got := Root(n, power)
			whole := big.NewInt(wholeRoot(n, power))
			r := whole.Add(whole.Lsh(whole, 32), big.NewInt(int64(got)))
			if !isRoot(r, n, power) {
				t.Errorf("Root(%d, %d) = %x", n, power, got)
			}
		}
	}
}

func TestRootOfSome(t *testing.T) {
	for _, c := range []struct {
		n, power int
		want     uint32
	}{
		{2, 2, 0x6a09e667}, {3, 2, 0xbb67ae85}, {19, 2, 0x5be0cd19},
		{2, 3, 0x428a2f98}, {3, 3, 0x71374491}, {311, 3, 0xc67178f2},
		{8, 2, 0xd413cccf}, {4, 3, 0x965fea53},
		{1000, 2, 0x9f6e4990}, {999, 2, 0x9b61d023}, {999, 3, 0xff25794b},
	} {
		if got := Root(c.n, c.power); got != c.want {
			t.Errorf("Root(%d, %d) = %08x, want %08x", c.n, c.power, got, c.want)
		}
	}
}

func TestRootOfSquaresAndCubes(t *testing.T) {
	for i := 0; i*i <= 1000; i++ {
		if got := Root(i*i, 2); got != 0 {
			t.Errorf("Root(%d, 2) = %x, want 0", i*i, got)
		}
	}
	for i := 0; i*i*i <= 1000; i++ {
		if got := Root(i*i*i, 3); got != 0 {
			t.Errorf("Root(%d, 3) = %x, want 0", i*i*i, got)
		}
	}
}

func TestRootOutside(t *testing.T) {
	for _, n := range []int{math.MinInt, -8, -2, -1, 1001, 1002, math.MaxInt} {
		for _, power := range []int{2, 3} {
			if got := Root(n, power); got != 0 {
				t.Errorf("Root(%d, %d) = %x, want 0", n, power, got)
			}
		}
	}
	for _, power := range []int{math.MinInt, -3, -2, -1, 0, 1, 4, 5, 6, math.MaxInt} {
		for _, n := range []int{0, 2, 3, 10, 999, 1000, 1001} {
			if got := Root(n, power); got != 0 {
				t.Errorf("Root(%d, %d) = %x, want 0", n, power, got)
			}
		}
	}
}

// 1.3: whole blocks, and unlike texts.

func TestFilledUpLengths(t *testing.T) {
	for n := range 1000 {
		if got := len(Fill(varied(n))); got%64 != 0 || got < n+9 || got > n+72 {
			t.Errorf("a text of %d bytes is filled up to %d", n, got)
		}
	}
	for n, want := range map[int]int{0: 64, 55: 64, 56: 128, 63: 128, 64: 128, 119: 128, 120: 192} {
		if got := len(Fill(varied(n))); got != want {
			t.Errorf("a text of %d bytes is filled up to %d, want %d", n, got, want)
		}
	}
}

func TestUnlikeTextsAreFilledUpToUnlikeOnes(t *testing.T) {
	texts := map[string]int{}
	for n := range 140 {
		for _, s := range []string{varied(n), strings.Repeat("\x00", n), strings.Repeat("\x80", n)} {
			texts[s]++
			texts[s+"\x80"]++
			for _, zeros := range []int{1, 2, 8, 9, 55, 63, 64, 65} {
				texts[s+strings.Repeat("\x00", zeros)]++
				texts[s+"\x80"+strings.Repeat("\x00", zeros)]++
			}
			texts[Fill(s)]++
			texts[Fill(s)[:len(Fill(s))-8]]++
		}
	}
	filled := map[string]string{}
	for s := range texts {
		f := Fill(s)
		if other, ok := filled[f]; ok {
			t.Errorf("%x and %x are both filled up to %x", s, other, f)
		}
		filled[f] = s
	}
}

package aead

import (
	"encoding/binary"
	"encoding/hex"
	"math"
	"math/big"
	"math/bits"
	"slices"
	"strings"
	"testing"

	"causey/api"
)

// text answers n bytes, unlike for each seed.
func text(n, seed int) string {
	out := make([]byte, n)
	for i := range out {
		out[i] = byte(i*i + i/64*31 + (i+1)*seed + seed*seed/7)
	}
	return string(out)
}

func keyOf(seed int) api.Key { return api.Key([]byte(text(32, seed))) }

func unhex(t *testing.T, s string) string {
	t.Helper()
	out, err := hex.DecodeString(strings.ReplaceAll(s, " ", ""))
	if err != nil {
		t.Fatal(err)
	}
	return string(out)
}

// The reference calls none of the program's layers: the stream is written out by columns, the one-time sum goes by numbers of any size.

func referenceBlock(k api.Key, count uint32, nonce string) []byte {
	first := []byte("expand 32-byte k")
	first = append(first, k[:]...)
	first = binary.LittleEndian.AppendUint32(first, count)
	first = append(first, nonce...)
	var x, begin [16]uint32
	for i := range x {
		x[i] = binary.LittleEndian.Uint32(first[4*i:])
	}
	begin = x
	for round := range 20 {
		for col := range 4 {
			at := [4]int{col, 4 + col, 8 + col, 12 + col}
			if round%2 == 1 {
				at = [4]int{col, 4 + (col+1)%4, 8 + (col+2)%4, 12 + (col+3)%4}
			}
			for i, by := range []int{16, 12, 8, 7} {
				to, turned := at[i%2*2], at[3-i%2*2]
				x[to] += x[at[1+i%2*2]]
				x[turned] = bits.RotateLeft32(x[turned]^x[to], by)
			}
		}
	}
	var out []byte
	for i := range x {
		out = binary.LittleEndian.AppendUint32(out, x[i]+begin[i])
	}
	return out
}

func referenceMask(k api.Key, nonce, s string) string {
	out := []byte(s)
	for i := range out {
		if i%64 == 0 {
			block := referenceBlock(k, uint32(1+i/64), nonce)
			for j := i; j < min(i+64, len(out)); j++ {
				out[j] ^= block[j-i]
			}
		}
	}
	return string(out)
}

func bigOf(b []byte) *big.Int {
	b = slices.Clone(b)
	slices.Reverse(b)
	return new(big.Int).SetBytes(b)
}

func referenceTag(k api.Key, nonce, beside, masked string) string {
	var about []byte
	for _, part := range []string{beside, masked} {
		about = append(about, part...)
		for len(about)%16 != 0 {
			about = append(about, 0)
		}
	}
	about = binary.LittleEndian.AppendUint64(about, uint64(len(beside)))
	about = binary.LittleEndian.AppendUint64(about, uint64(len(masked)))
	once := referenceBlock(k, 0, nonce)
	r := new(big.Int).And(bigOf(once[:16]), bigOf([]byte("\xff\xff\xff\x0f\xfc\xff\xff\x0f\xfc\xff\xff\x0f\xfc\xff\xff\x0f")))
	by := new(big.Int).Sub(new(big.Int).Lsh(big.NewInt(1), 130), big.NewInt(5))
	sum := new(big.Int)
	for piece := range slices.Chunk(about, 16) {
		sum.Add(sum, bigOf(append(slices.Clone(piece), 1)))
		sum.Mod(sum.Mul(sum, r), by)
	}
	sum.Add(sum, bigOf(once[16:32]))
	sum.Mod(sum, new(big.Int).Lsh(big.NewInt(1), 128))
	out := sum.FillBytes(make([]byte, 16))
	slices.Reverse(out)
	return string(out)
}

func referenceSeal(k api.Key, nonce, beside, s string) string {
	masked := referenceMask(k, nonce, s)
	return masked + referenceTag(k, nonce, beside, masked)
}

func seals(t *testing.T, k api.Key, nonce, beside, s string) string {
	t.Helper()
	sealed, errno := Seal(k, nonce, beside, s)
	if errno != api.OK {
		t.Fatalf("Seal(%x, %x, %x, %x) = %d", k, nonce, beside, s, errno)
	}
	return sealed
}

// sameSeal holds Seal, Tag and Open against the reference.
func sameSeal(t *testing.T, k api.Key, nonce, beside, s string) {
	t.Helper()
	want := referenceSeal(k, nonce, beside, s)
	if got := seals(t, k, nonce, beside, s); got != want {
		t.Fatalf("Seal(%x, %x, %x, %x) = %x, want %x", k, nonce, beside, s, got, want)
	}
	if got, errno := Tag(k, nonce, beside, want[:len(s)]); got != want[len(s):] || errno != api.OK {
		t.Fatalf("Tag(%x, %x, %x, %x) = %x, %d, want %x", k, nonce, beside, want[:len(s)], got, errno, want[len(s):])
	}
	opens(t, k, nonce, beside, want, s)
}

func opens(t *testing.T, k api.Key, nonce, beside, sealed, want string) {
	t.Helper()
	if got, errno := Open(k, nonce, beside, sealed); got != want || errno != api.OK {
		t.Fatalf("Open(%x, %x, %x, %x) = %x, %d, want %x", k, nonce, beside, sealed, got, errno, want)
	}
}

func refuses(t *testing.T, k api.Key, nonce, beside, s string, want api.Errno) {
	t.Helper()
	if got, errno := Open(k, nonce, beside, s); got != "" || errno != want {
		t.Fatalf("Open(%x, %x, %x, %x) = %x, %d, want no text, %d", k, nonce, beside, s, got, errno, want)
	}
}

// 5.1: sealing, tags, opening.

// RFC 8439, 2.8.2 and A.5.
func TestAsPublished(t *testing.T) {
	for _, c := range []struct{ key, nonce, beside, text, masked, tag string }{
		{
			"808182838485868788898a8b8c8d8e8f909192939495969798999a9b9c9d9e9f",
			"070000004041424344454647",
			"50515253c0c1c2c3c4c5c6c7",
			"Ladies and Gentlemen of the class of '99: If I could offer you only one tip for the future, sunscreen would be it.",
			"d31a8d34648e60db7b86afbc53ef7ec2 a4aded51296e08fea9e2b5a736ee62d6 3dbea45e8ca9671282fafb69da92728b 1a71de0a9e060b2905d6a5b67ecd3b36 92ddbd7f2d778b8c9803aee328091b58 fab324e4fad675945585808b4831d7bc 3ff4def08e4b7a9de576d26586cec64b 6116",
			"1ae10b594f09e26a7e902ecbd0600691",
		},
		{
			"1c9240a5eb55d38af333888604f6b5f0473917c1402b80099dca5cbc207075c0",
			"000000000102030405060708",
			"f33388860000000000004e91",
			"Internet-Drafts are draft documents valid for a maximum of six months and may be updated, replaced, or obsoleted by other documents at any time. It is inappropriate to use Internet-Drafts as reference material or to cite them other than as /\u201cwork in progress./\u201d",
			"64a0861575861af460f062c79be643bd 5e805cfd345cf389f108670ac76c8cb2 4c6cfc18755d43eea09ee94e382d26b0 bdb7b73c321b0100d4f03b7f355894cf 332f830e710b97ce98c8a84abd0b9481 14ad176e008d33bd60f982b1ff37c855 9797a06ef4f0ef61c186324e2b350638 3606907b6a7c02b0f9f6157b53c867e4 b9166c767b804d46a59b5216cde7a4e9 9040c5a40433225ee282a1b0a06c523e af4534d7f83fa1155b0047718cbc546a 0d072b04b3564eea1b422273f548271a 0bb2316053fa76991955ebd63159434e cebb4e466dae5a1073a6727627097a10 49e617d91d361094fa68f0ff77987130 305beaba2eda04df997b714d6c6f2c29 a6ad5cb4022b02709b",
			"eead9d67890cbb22392336fea1851f38",
		},
	} {
		k, nonce, beside := api.Key([]byte(unhex(t, c.key))), unhex(t, c.nonce), unhex(t, c.beside)
		masked, tag := unhex(t, c.masked), unhex(t, c.tag)
		if got := seals(t, k, nonce, beside, c.text); got != masked+tag {
			t.Errorf("Seal of %q = %x, want %x%x", c.text, got, masked, tag)
		}
		if got, errno := Tag(k, nonce, beside, masked); got != tag || errno != api.OK {
			t.Errorf("Tag of %x = %x, %d, want %x", masked, got, errno, tag)
		}
		opens(t, k, nonce, beside, masked+tag, c.text)
	}
}

// The chapter's example.
func TestSealOfNothingIsATag(t *testing.T) {
	for seed := range 20 {
		k, nonce, beside := keyOf(seed), text(12, seed+1), text(seed, 3)
		sealed := seals(t, k, nonce, beside, "")
		tag, errno := Tag(k, nonce, beside, "")
		if len(sealed) != 16 || sealed != tag || errno != api.OK {
			t.Errorf("Seal of nothing = %x, its tag %x, %d", sealed, tag, errno)
		}
		opens(t, k, nonce, beside, sealed, "")
	}
}

func TestAllLengths(t *testing.T) {
	k, nonce := keyOf(3), text(12, 5)
	for n := range 150 {
		sameSeal(t, k, nonce, "", text(n, 7))
		sameSeal(t, k, nonce, text(n, 7), "")
		sameSeal(t, k, nonce, text(5, 9), text(n, 7))
		sameSeal(t, k, nonce, text(n, 9), text(21, 7))
	}
	for words := range 35 {
		for n := range 35 {
			sameSeal(t, k, nonce, text(words, 9), text(n, 7))
			sameSeal(t, k, nonce, strings.Repeat("\x00", words), strings.Repeat("\xff", n))
		}
	}
}

// Lengths of more than one byte are told by more than one.
func TestLongTexts(t *testing.T) {
	for _, n := range []int{255, 256, 257, 1518, 8192, 65535, 65536, 65537, 1<<20 + 1} {
		sameSeal(t, keyOf(n), text(12, n), text(13, 3), text(n, 9))
		sameSeal(t, keyOf(n), text(12, n), text(n, 9), text(13, 3))
	}
}

func TestManyKeysAndNonces(t *testing.T) {
	for seed := range 1000 {
		sameSeal(t, keyOf(seed), text(12, 3*seed+1), text(seed%37, seed), text(seed%101, 5*seed))
	}
	for _, b := range []string{"\x00", "\x7f", "\x80", "\xff"} {
		k := api.Key([]byte(strings.Repeat(b, 32)))
		sameSeal(t, k, strings.Repeat(b, 12), strings.Repeat(b, 20), strings.Repeat(b, 70))
	}
}

// A nonce that hasn't 12 bytes is told ahead of all else.
func TestNonceOfOtherLengths(t *testing.T) {
	k := keyOf(3)
	sealed := seals(t, k, text(12, 5), "beside", "a text")
	for n := range 100 {
		if n == 12 {
			continue
		}
		for _, nonce := range []string{text(n, 5), strings.Repeat("\x00", n)} {
			for _, s := range []string{"", "a", text(15, 3), text(16, 3), text(100, 3), sealed} {
				if got, errno := Seal(k, nonce, "beside", s); got != "" || errno != api.ErrArg {
					t.Errorf("Seal, with a nonce of %d bytes, = %x, %d", n, got, errno)
				}
				if got, errno := Tag(k, nonce, "beside", s); got != "" || errno != api.ErrArg {
					t.Errorf("Tag, with a nonce of %d bytes, = %x, %d", n, got, errno)
				}
				refuses(t, k, nonce, "beside", s, api.ErrArg)
			}
		}
	}
}

func TestOpenOfTooFewBytes(t *testing.T) {
	k, nonce := keyOf(3), text(12, 5)
	sealed := seals(t, k, nonce, "beside", "")
	for n := range 16 {
		refuses(t, k, nonce, "beside", sealed[:n], api.ErrShort)
		refuses(t, k, nonce, "beside", strings.Repeat("\x00", n), api.ErrShort)
		refuses(t, k, nonce, "", text(n, 3), api.ErrShort)
	}
	refuses(t, k, nonce, "beside", strings.Repeat("\x00", 16), api.ErrOpen)
	refuses(t, k, nonce, "beside", text(16, 3), api.ErrOpen)
}

// flipped answers a text with one bit another one.
func flipped(s string, bit int) string {
	b := []byte(s)
	b[bit/8] ^= 1 << (bit % 8)
	return string(b)
}

func TestOpenOfAnyBitChanged(t *testing.T) {
	for _, n := range []int{0, 1, 15, 16, 17, 70} {
		k, nonce, beside, s := keyOf(n), text(12, 5), text(19, 7), text(n, 9)
		sealed := seals(t, k, nonce, beside, s)
		opens(t, k, nonce, beside, sealed, s)
		for bit := range 8 * len(sealed) {
			refuses(t, k, nonce, beside, flipped(sealed, bit), api.ErrOpen)
		}
		for bit := range 8 * len(nonce) {
			refuses(t, k, flipped(nonce, bit), beside, sealed, api.ErrOpen)
		}
		for bit := range 8 * len(beside) {
			refuses(t, k, nonce, flipped(beside, bit), sealed, api.ErrOpen)
		}
		for bit := range 8 * len(k) {
			refuses(t, api.Key([]byte(flipped(string(k[:]), bit))), nonce, beside, sealed, api.ErrOpen)
		}
	}
}

// Two bytes changed alike don't make up for each other.
func TestOpenOfTwoBytesChanged(t *testing.T) {
	k, nonce := keyOf(3), text(12, 5)
	sealed := seals(t, k, nonce, "beside", "a text")
	for i := range sealed {
		for j := range i {
			for _, with := range []byte{1, 0x80, 0xff} {
				b := []byte(sealed)
				b[i] ^= with
				b[j] ^= with
				refuses(t, k, nonce, "beside", string(b), api.ErrOpen)
			}
		}
	}
}

func TestOpenOfCutAndLengthened(t *testing.T) {
	k, nonce, beside, s := keyOf(3), text(12, 5), text(33, 7), text(80, 9)
	sealed := seals(t, k, nonce, beside, s)
	for n := 16; n < len(sealed); n++ {
		refuses(t, k, nonce, beside, sealed[:n], api.ErrOpen)
		refuses(t, k, nonce, beside, sealed[len(sealed)-n:], api.ErrOpen)
	}
	for n := 1; n < 40; n++ {
		zeros := strings.Repeat("\x00", n)
		refuses(t, k, nonce, beside, sealed+zeros, api.ErrOpen)
		refuses(t, k, nonce, beside, zeros+sealed, api.ErrOpen)
		refuses(t, k, nonce, beside, sealed[:len(s)]+zeros+sealed[len(s):], api.ErrOpen)
		refuses(t, k, nonce, beside+zeros, sealed, api.ErrOpen)
		refuses(t, k, nonce, zeros+beside, sealed, api.ErrOpen)
		refuses(t, k, nonce, beside[:len(beside)-min(n, len(beside))], sealed, api.ErrOpen)
	}
}

// Zero bytes behind a part, and bytes moved from one part to the other one, make another tag.
func TestTagKeepsPartsApart(t *testing.T) {
	k, nonce := keyOf(3), text(12, 5)
	whole := text(48, 7)
	seen := map[string]string{}
	add := func(beside, masked string) {
		tag, errno := Tag(k, nonce, beside, masked)
		if errno != api.OK || len(tag) != 16 {
			t.Fatalf("Tag = %x, %d", tag, errno)
		}
		parts := hex.EncodeToString([]byte(beside)) + " " + hex.EncodeToString([]byte(masked))
		if other, ok := seen[tag]; ok && other != parts {
			t.Errorf("%s has the tag of %s: %x", parts, other, tag)
		}
		seen[tag] = parts
	}
	for at := range len(whole) + 1 {
		add(whole[:at], whole[at:])
	}
	for n := range 20 {
		for m := range 20 {
			add(strings.Repeat("\x00", n), strings.Repeat("\x00", m))
			add("a"+strings.Repeat("\x00", n), "b"+strings.Repeat("\x00", m))
		}
	}
}

// 5.2: numbers as nonces.

func TestNonceOfKnownNumbers(t *testing.T) {
	for _, c := range []struct {
		n    uint64
		want string
	}{
		{0, "000000000000000000000000"},
		{1, "000000000100000000000000"},
		{255, "00000000ff00000000000000"},
		{256, "000000000001000000000000"},
		{258, "000000000201000000000000"},
		{math.MaxUint32, "00000000ffffffff00000000"},
		{math.MaxUint32 + 1, "000000000000000001000000"},
		{0x0807060504030201, "000000000102030405060708"},
		{math.MaxInt64, "00000000ffffffffffffff7f"},
		{math.MaxInt64 + 1, "000000000000000000000080"},
		{math.MaxUint64, "00000000ffffffffffffffff"},
	} {
		if got := Nonce(c.n); got != unhex(t, c.want) {
			t.Errorf("Nonce(%d) = %x, want %s", c.n, got, c.want)
		}
	}
}

func TestNonceOfManyNumbers(t *testing.T) {
	check := func(n uint64) {
		want := string(binary.LittleEndian.AppendUint64(make([]byte, 4), n))
		if got := Nonce(n); got != want {
			t.Fatalf("Nonce(%d) = %x, want %x", n, got, want)
		}
	}
	for bit := range 64 {
		check(1 << bit)
		check(1<<bit - 1)
		check(^uint64(1 << bit))
	}
	for i := range uint64(70000) {
		check(i)
		check(i * 0x9e3779b97f4a7c15)
	}
}

// A number as a nonce has the bytes that the other functions ask for.
func TestNonceIsOne(t *testing.T) {
	for _, n := range []uint64{0, 1, 1 << 40, math.MaxUint64} {
		sameSeal(t, keyOf(3), Nonce(n), "beside", "a text")
	}
}

// 5.3: there and back.

func TestWhatWasSealedIsOpened(t *testing.T) {
	for seed := range 500 {
		k, nonce, beside, s := keyOf(seed), text(12, seed+1), text(seed%50, seed), text(seed, 3*seed)
		opens(t, k, nonce, beside, seals(t, k, nonce, beside, s), s)
	}
}

// Whatever bytes have their tag behind them are opened, and are what Seal makes of the text.
func TestWhatIsOpenedWasSealedSo(t *testing.T) {
	for seed := range 500 {
		k, nonce, beside, masked := keyOf(seed), text(12, seed+1), text(seed%50, seed), text(seed%140, 3*seed)
		tag, errno := Tag(k, nonce, beside, masked)
		if errno != api.OK {
			t.Fatalf("Tag = %d", errno)
		}
		opened, errno := Open(k, nonce, beside, masked+tag)
		if errno != api.OK {
			t.Fatalf("Open of %x and its tag %x = %d", masked, tag, errno)
		}
		if again := seals(t, k, nonce, beside, opened); again != masked+tag {
			t.Errorf("Seal of what was opened of %x%x = %x", masked, tag, again)
		}
	}
}

// Rules 4 and 6: answers hang on arguments alone.

func TestAnswersHangOnArgumentsAlone(t *testing.T) {
	k, nonce, beside, s := keyOf(3), text(12, 5), text(20, 7), text(100, 9)
	kept := k
	sealed, tag, number := seals(t, k, nonce, beside, s), referenceTag(k, nonce, beside, s), Nonce(77)
	Seal(keyOf(8), text(12, 8), text(70, 8), text(300, 8))
	Seal(k, "short", beside, s)
	Open(k, nonce, beside, text(60, 3))
	Tag(k, nonce, beside, text(60, 3))
	Nonce(78)
	if k != kept || nonce != text(12, 5) || beside != text(20, 7) || s != text(100, 9) {
		t.Error("what was handed in is changed")
	}
	if seals(t, k, nonce, beside, s) != sealed || Nonce(77) != number {
		t.Error("answers are others behind other calls")
	}
	if got, errno := Tag(k, nonce, beside, s); got != tag || errno != api.OK {
		t.Errorf("Tag behind other calls = %x, %d", got, errno)
	}
	opens(t, k, nonce, beside, sealed, s)
	opens(t, k, nonce, beside, sealed, s)
}

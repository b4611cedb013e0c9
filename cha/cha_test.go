package cha

import (
	"encoding/binary"
	"encoding/hex"
	"math"
	"strings"
	"testing"

	"causey/api"
)

const zeroNonce = "\x00\x00\x00\x00\x00\x00\x00\x00\x00\x00\x00\x00"

// text answers n bytes, unlike for each seed.
func text(n, seed int) string {
	out := make([]byte, n)
	for i := range out {
		out[i] = byte(i*i + i/64*31 + (i+1)*seed)
	}
	return string(out)
}

func keyOf(seed int) api.Key { return api.Key([]byte(text(32, seed))) }

// rising is the key of the bytes 0, 1, .. 31.
func rising() api.Key {
	var k api.Key
	for i := range k {
		k[i] = byte(i)
	}
	return k
}

func unhex(t *testing.T, s string) string {
	t.Helper()
	out, err := hex.DecodeString(s)
	if err != nil {
		t.Fatal(err)
	}
	return string(out)
}

func keyOfHex(t *testing.T, s string) api.Key {
	t.Helper()
	return api.Key([]byte(unhex(t, s)))
}

func mustBlock(t *testing.T, k api.Key, count uint32, nonce string) string {
	t.Helper()
	block, errno := Block(k, count, nonce)
	if errno != api.OK {
		t.Fatalf("Block(%x, %d, %x) = %d", k, count, nonce, errno)
	}
	return block
}

func mustMask(t *testing.T, k api.Key, count uint32, nonce, s string) string {
	t.Helper()
	out, errno := Mask(k, count, nonce, s)
	if errno != api.OK {
		t.Fatalf("Mask(%x, %d, %x, %x) = %d", k, count, nonce, s, errno)
	}
	return out
}

// grown and turned are what the reference is made of: sums and products of greater numbers, of which the rest by 2^32 is taken.
func grown(a, b uint64) uint64 { return (a + b) % (1 << 32) }

func turned(a uint64, by int) uint64 {
	for range by {
		a = a*2%(1<<32) + a/(1<<31)
	}
	return a
}

func referenceQuarter(w []uint64, a, b, c, d int) {
	step := func(to, from, made, by int) {
		w[to] = grown(w[to], w[from])
		w[made] = turned(w[made]^w[to], by)
	}
	step(a, b, d, 16)
	step(c, d, b, 12)
	step(a, b, d, 8)
	step(c, d, b, 7)
}

// referenceBlock goes through columns and diagonals by sums of places.
func referenceBlock(k api.Key, count uint32, nonce string) string {
	first := []byte("expand 32-byte k")
	first = append(first, k[:]...)
	first = binary.LittleEndian.AppendUint32(first, count)
	first = append(first, nonce...)
	w := make([]uint64, 16)
	for i := range w {
		w[i] = uint64(binary.LittleEndian.Uint32(first[4*i:]))
	}
	for round := range 20 {
		for i := range 4 {
			shift := round % 2
			referenceQuarter(w, i, 4+(i+shift)%4, 8+(i+2*shift)%4, 12+(i+3*shift)%4)
		}
	}
	var out []byte
	for i := range w {
		sum := grown(w[i], uint64(binary.LittleEndian.Uint32(first[4*i:])))
		out = binary.LittleEndian.AppendUint32(out, uint32(sum))
	}
	return string(out)
}

// 3.1: quarters.

func TestQuarterOfTheExample(t *testing.T) {
	a, b, c, d := Quarter(0x11111111, 0x01020304, 0x9b8d6f43, 0x01234567)
	if a != 0xea2a92f4 || b != 0xcb1cf8ce || c != 0x4581472e || d != 0x5881c4bb {
		t.Errorf("Quarter = %x, %x, %x, %x", a, b, c, d)
	}
}

// RFC 8439, 2.2.1.
func TestQuarterAsPublished(t *testing.T) {
	a, b, c, d := Quarter(0x516461b1, 0x2a5f714c, 0x53372767, 0x3d631689)
	if a != 0xbdb886dc || b != 0xcfacafd2 || c != 0xe46bea80 || d != 0xccc07c79 {
		t.Errorf("Quarter = %x, %x, %x, %x", a, b, c, d)
	}
}

// edgeWords answers words at which something goes round or nothing happens.
func edgeWords() []uint32 {
	return []uint32{0, 1, 2, 0x7fffffff, 0x80000000, 0x80000001, 0xfffffffe, 0xffffffff, 0x0000ffff, 0xffff0000, 0x9b8d6f43}
}

func TestQuarterOfEdges(t *testing.T) {
	for _, a := range edgeWords() {
		for _, b := range edgeWords() {
			for _, c := range edgeWords() {
				for _, d := range edgeWords() {
					w := []uint64{uint64(a), uint64(b), uint64(c), uint64(d)}
					referenceQuarter(w, 0, 1, 2, 3)
					qa, qb, qc, qd := Quarter(a, b, c, d)
					got := [4]uint32{qa, qb, qc, qd}
					want := [4]uint32{uint32(w[0]), uint32(w[1]), uint32(w[2]), uint32(w[3])}
					if got != want {
						t.Fatalf("Quarter(%x, %x, %x, %x) = %x, want %x", a, b, c, d, got, want)
					}
				}
			}
		}
	}
}

// 3.1: blocks.

// The keys, counts and nonces of RFC 8439, 2.3.2 and A.1, and the greatest ones.
func TestBlockAsPublished(t *testing.T) {
	zeros := strings.Repeat("00", 32)
	counting := "000102030405060708090a0b0c0d0e0f101112131415161718191a1b1c1d1e1f"
	for _, c := range []struct {
		key         string
		count       uint32
		nonce, want string
	}{
		{counting, 1, "000000090000004a00000000",
			"10f1e7e4d13b5915500fdd1fa32071c4c7d1f4c733c068030422aa9ac3d46c4e" +
				"d2826446079faa0914c2d705d98b02a2b5129cd1de164eb9cbd083e8a2503c4e"},
		{zeros, 0, "000000000000000000000000",
			"76b8e0ada0f13d90405d6ae55386bd28bdd219b8a08ded1aa836efcc8b770dc7" +
				"da41597c5157488d7724e03fb8d84a376a43b8f41518a11cc387b669b2ee6586"},
		{zeros, 1, "000000000000000000000000",
			"9f07e7be5551387a98ba977c732d080dcb0f29a048e3656912c6533e32ee7aed" +
				"29b721769ce64e43d57133b074d839d531ed1f28510afb45ace10a1f4b794d6f"},
		{zeros[:63] + "1", 1, "000000000000000000000000",
			"3aeb5224ecf849929b9d828db1ced4dd832025e8018b8160b82284f3c949aa5a" +
				"8eca00bbb4a73bdad192b5c42f73f2fd4e273644c8b36125a64addeb006c13a0"},
		{"00ff" + zeros[4:], 2, "000000000000000000000000",
			"72d54dfbf12ec44b362692df94137f328fea8da73990265ec1bbbea1ae9af0ca" +
				"13b25aa26cb4a648cb9b9d1be65b2c0924a66c54d545ec1b7374f4872e99f096"},
		{zeros, 0, "000000000000000000000002",
			"c2c64d378cd536374ae204b9ef933fcd1a8b2288b3dfa49672ab765b54ee27c7" +
				"8a970e0e955c14f3a88e741b97c286f75f8fc299e8148362fa198a39531bed6d"},
		{counting, math.MaxUint32, "000000090000004a00000000",
			"ff2941b8d740f6cbb50936bf997ebd5218cb108dc53f41c64841d0218167430c" +
				"a03b770ca74ccb642a28194d1dedd2ed13151e25ec5d7faeb6d060bfb7e6b146"},
		{strings.Repeat("ff", 32), math.MaxUint32, strings.Repeat("ff", 12),
			"d72b21cfa4b6b0c41d61f62b8a11159c6a4f63bc56c2035796c7ad37811121bb" +
				"ec56d54a530f3a933dd28a50feb23bfaf64f405be985f3718bdf4683e96be749"},
	} {
		got, errno := Block(keyOfHex(t, c.key), c.count, unhex(t, c.nonce))
		if hex.EncodeToString([]byte(got)) != c.want || errno != api.OK {
			t.Errorf("Block(%s, %d, %s) = %x, %d, want %s", c.key, c.count, c.nonce, got, errno, c.want)
		}
	}
}

func TestBlockOfManyKeysCountsAndNonces(t *testing.T) {
	for seed := range 300 {
		k, nonce := keyOf(seed), text(12, 7*seed+1)
		for _, count := range append(edgeWords(), 0x01020304, uint32(seed)<<16) {
			if got, want := mustBlock(t, k, count, nonce), referenceBlock(k, count, nonce); got != want {
				t.Fatalf("Block(%x, %d, %x) = %x, want %x", k, count, nonce, got, want)
			}
		}
	}
}

// Each bit of a key, of a count and of a nonce has its own part in the block.
func TestBlockOfOneBit(t *testing.T) {
	seen := map[string]bool{}
	look := func(k api.Key, count uint32, nonce string) {
		got := mustBlock(t, k, count, nonce)
		if want := referenceBlock(k, count, nonce); got != want {
			t.Errorf("Block(%x, %d, %x) = %x, want %x", k, count, nonce, got, want)
		}
		if seen[got] {
			t.Errorf("Block(%x, %d, %x) is that of another state", k, count, nonce)
		}
		seen[got] = true
	}
	for bit := range 256 {
		var k api.Key
		k[bit/8] = 1 << (bit % 8)
		look(k, 0, zeroNonce)
	}
	for bit := range 32 {
		look(api.Key{}, 1<<bit, zeroNonce)
	}
	for bit := range 96 {
		nonce := []byte(zeroNonce)
		nonce[bit/8] = 1 << (bit % 8)
		look(api.Key{}, 0, string(nonce))
	}
}

// 3.1: masked texts.

// The texts of RFC 8439, 2.4.2 and A.2.
func TestMaskAsPublished(t *testing.T) {
	for _, c := range []struct {
		key            string
		count          uint32
		nonce, s, want string
	}{
		{"000102030405060708090a0b0c0d0e0f101112131415161718191a1b1c1d1e1f", 1, "000000000000004a00000000",
			"Ladies and Gentlemen of the class of '99: If I could offer you only one tip for the future, sunscreen would be it.",
			"6e2e359a2568f98041ba0728dd0d6981e97e7aec1d4360c20a27afccfd9fae0b" +
				"f91b65c5524733ab8f593dabcd62b3571639d624e65152ab8f530c359f0861d8" +
				"07ca0dbf500d6a6156a38e088a22b65e52bc514d16ccf806818ce91ab7793736" +
				"5af90bbf74a35be6b40b8eedf2785e42874d"},
		{"1c9240a5eb55d38af333888604f6b5f0473917c1402b80099dca5cbc207075c0", 42, "000000000000000000000002",
			"'Twas brillig, and the slithy toves\nDid gyre and gimble in the wabe:\nAll mimsy were the borogoves,\nAnd the mome raths outgrabe.",
			"62e6347f95ed87a45ffae7426f27a1df5fb69110044c0d73118effa95b01e5cf" +
				"166d3df2d721caf9b21e5fb14c616871fd84c54f9d65b283196c7fe4f60553eb" +
				"f39c6402c42234e32a356b3e764312a61a5532055716ead6962568f87d3f3f77" +
				"04c6a8d1bcd1bf4d50d6154b6da731b187b58dfd728afa36757a797ac188d1"},
	} {
		got, errno := Mask(keyOfHex(t, c.key), c.count, unhex(t, c.nonce), c.s)
		if hex.EncodeToString([]byte(got)) != c.want || errno != api.OK {
			t.Errorf("Mask(%s, %d, %s, %q) = %x, %d, want %s", c.key, c.count, c.nonce, c.s, got, errno, c.want)
		}
	}
}

// referenceMask makes a text one with blocks of rising counts.
func referenceMask(k api.Key, count uint32, nonce, s string) string {
	stream := ""
	for n := uint64(count); len(stream) < len(s); n++ {
		stream += referenceBlock(k, uint32(n%(1<<32)), nonce)
	}
	out := []byte(s)
	for i := range out {
		out[i] ^= stream[i]
	}
	return string(out)
}

func TestMaskOfAllLengths(t *testing.T) {
	k, nonce := rising(), text(12, 5)
	for n := range 330 {
		for _, s := range []string{strings.Repeat("\x00", n), strings.Repeat("\xff", n), text(n, 3)} {
			if got, want := mustMask(t, k, 7, nonce, s), referenceMask(k, 7, nonce, s); got != want {
				t.Fatalf("Mask of %x = %x, want %x", s, got, want)
			}
		}
	}
}

func TestMaskOfLongTexts(t *testing.T) {
	for _, n := range []int{1518, 8191, 8192, 8193, 64 * 1024, 20001} {
		k, nonce, s := keyOf(n), text(12, n), text(n, 9)
		if mustMask(t, k, 1, nonce, s) != referenceMask(k, 1, nonce, s) {
			t.Errorf("a text of %d bytes is masked otherwise", n)
		}
	}
}

// Counts go round: behind the greatest one comes 0, and the nonce stays as it is.
func TestMaskCountsGoRound(t *testing.T) {
	k, nonce := rising(), text(12, 5)
	zeros := strings.Repeat("\x00", 64)
	for back := range uint32(4) {
		count := math.MaxUint32 - back
		got := mustMask(t, k, count, nonce, strings.Repeat(zeros, 5)+"\x00")
		for i := range uint32(5) {
			want := mustBlock(t, k, count+i, nonce)
			if got[64*i:64*i+64] != want {
				t.Errorf("from count %d on, block %d = %x, want that of count %d: %x", count, i, got[64*i:64*i+64], count+i, want)
			}
		}
		if want := mustBlock(t, k, count+5, nonce)[:1]; got[320:] != want {
			t.Errorf("from count %d on, the last byte = %x, want %x", count, got[320:], want)
		}
	}
}

func TestMaskOfNothing(t *testing.T) {
	for _, count := range []uint32{0, 1, math.MaxUint32} {
		if got, errno := Mask(rising(), count, zeroNonce, ""); got != "" || errno != api.OK {
			t.Errorf("Mask of nothing = %x, %d", got, errno)
		}
	}
}

// 3.1: nonces that haven't 12 bytes.

func TestWrongNonces(t *testing.T) {
	for n := range 70 {
		nonce, want := text(n, 3), api.ErrArg
		if n == 12 {
			want = api.OK
		}
		for _, count := range []uint32{0, 1, math.MaxUint32} {
			block, errno := Block(rising(), count, nonce)
			if errno != want || errno != api.OK && block != "" {
				t.Errorf("Block with a nonce of %d bytes = %x, %d, want %d", n, block, errno, want)
			}
			for _, s := range []string{"", "a", text(200, 9)} {
				out, errno := Mask(rising(), count, nonce, s)
				if errno != want || errno != api.OK && out != "" {
					t.Errorf("Mask of %d bytes with a nonce of %d bytes = %x, %d, want %d", len(s), n, out, errno, want)
				}
			}
		}
	}
}

// Bytes are counted, not signs: twelve signs of two bytes are no nonce, six are.
func TestNonceIsCountedInBytes(t *testing.T) {
	if _, errno := Block(rising(), 0, strings.Repeat("é", 12)); errno != api.ErrArg {
		t.Errorf("Block with twelve signs of two bytes = %d", errno)
	}
	if _, errno := Mask(rising(), 0, strings.Repeat("é", 6), "a"); errno != api.OK {
		t.Errorf("Mask with six signs of two bytes = %d", errno)
	}
}

// 3.2: what is masked twice is as it was.

func TestMaskTwice(t *testing.T) {
	for _, n := range []int{0, 1, 63, 64, 65, 127, 128, 129, 1518, 8192} {
		for _, count := range []uint32{0, 1, math.MaxUint32 - 1, math.MaxUint32} {
			k, nonce, s := keyOf(n), text(12, n+1), text(n, 13)
			once := mustMask(t, k, count, nonce, s)
			if got := mustMask(t, k, count, nonce, once); got != s {
				t.Errorf("%x masked twice from count %d on = %x", s, count, got)
			}
			if n >= 63 && once == s {
				t.Errorf("%x masked from count %d on is as it was", s, count)
			}
		}
	}
}

// 3.2: a quarter can be undone.

func undone(a, b, c, d uint32) (uint32, uint32, uint32, uint32) {
	right := func(w uint32, by int) uint32 { return w>>by | w<<(32-by) }
	b = right(b, 7) ^ c
	c -= d
	d = right(d, 8) ^ a
	a -= b
	b = right(b, 12) ^ c
	c -= d
	d = right(d, 16) ^ a
	a -= b
	return a, b, c, d
}

func TestQuarterCanBeUndone(t *testing.T) {
	for _, a := range edgeWords() {
		for _, b := range edgeWords() {
			for _, c := range edgeWords() {
				for _, d := range edgeWords() {
					ua, ub, uc, ud := undone(Quarter(a, b, c, d))
					if ua != a || ub != b || uc != c || ud != d {
						t.Fatalf("Quarter(%x, %x, %x, %x), undone = %x, %x, %x, %x", a, b, c, d, ua, ub, uc, ud)
					}
				}
			}
		}
	}
}

// Rule 6: what is answered hangs on the arguments alone.

func TestAnswersHangOnArgumentsAlone(t *testing.T) {
	k, nonce, s := rising(), text(12, 5), text(200, 3)
	block, masked := mustBlock(t, k, 3, nonce), mustMask(t, k, 3, nonce, s)
	mustMask(t, keyOf(1), 9, zeroNonce, text(500, 1))
	Mask(k, 3, "short", s)
	if mustBlock(t, k, 3, nonce) != block || mustMask(t, k, 3, nonce, s) != masked {
		t.Error("answers are others behind other calls")
	}
}

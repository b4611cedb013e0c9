package mac

import (
	"crypto/hkdf"
	"crypto/hmac"
	"crypto/sha256"
	"encoding/hex"
	"math"
	"slices"
	"strings"
	"testing"

	"causey/api"
	"causey/sha"
)

// text answers n bytes, unlike for each seed.
func text(n, seed int) string {
	out := make([]byte, n)
	for i := range out {
		out[i] = byte(i*i + i/64*31 + (i+1)*seed)
	}
	return string(out)
}

func unhex(t *testing.T, s string) string {
	t.Helper()
	out, err := hex.DecodeString(s)
	if err != nil {
		t.Fatal(err)
	}
	return string(out)
}

func asHex(keys ...api.Key) string {
	out := ""
	for _, k := range keys {
		out += hex.EncodeToString(k[:])
	}
	return out
}

func publishedSum(key, s string) api.Key {
	h := hmac.New(sha256.New, []byte(key))
	h.Write([]byte(s))
	return api.Key(h.Sum(nil))
}

// publishedKeys answers n keys, one behind the other.
func publishedKeys(t *testing.T, root api.Key, info string, n int) string {
	t.Helper()
	out, err := hkdf.Expand(sha256.New, root[:], info, 32*n)
	if err != nil {
		t.Fatal(err)
	}
	return hex.EncodeToString(out)
}

// 2.1: keyed sums as published.

func TestSumOfTheExample(t *testing.T) {
	const want = "5bdcc146bf60754e6a042426089575c75a003f089d2739839dec58b964ec3843"
	if got := asHex(Sum("Jefe", "what do ya want for nothing?")); got != want {
		t.Errorf("Sum = %s, want %s", got, want)
	}
}

// The keys and texts of RFC 4231, and nothing under nothing.
func TestSumAsPublished(t *testing.T) {
	long := strings.Repeat("\xaa", 131)
	for _, c := range []struct{ key, s, want string }{
		{strings.Repeat("\x0b", 20), "Hi There",
			"b0344c61d8db38535ca8afceaf0bf12b881dc200c9833da726e9376c2e32cff7"},
		{strings.Repeat("\xaa", 20), strings.Repeat("\xdd", 50),
			"773ea91e36800e46854db8ebd09181a72959098b3ef8c122d9635514ced565fe"},
		{unhex(t, "0102030405060708090a0b0c0d0e0f10111213141516171819"), strings.Repeat("\xcd", 50),
			"82558a389a443c0ea4cc819899f2083a85f0faa3e578f8077a2e3ff46729665b"},
		{long, "Test Using Larger Than Block-Size Key - Hash Key First",
			"60e431591ee0b67f0d8a26aacbf5b77f8e0bc6213728c5140546040f0ee37f54"},
		{long, "This is a test using a larger than block-size key and a larger than block-size data. The key needs to be hashed before being used by the HMAC algorithm.",
			"9b09ffa71b942fcb27635fbcd5b0e944bfdc63644f0713938a7f51535c3a35e2"},
		{"", "", "b613679a0814d9ec772f95d778c35fc5ff1697c493715653c6c712144292c5ad"},
	} {
		if got := asHex(Sum(c.key, c.s)); got != c.want {
			t.Errorf("Sum(%x, %x) = %s, want %s", c.key, c.s, got, c.want)
		}
	}
}

func TestSumUnderKeysOfAllLengths(t *testing.T) {
	for n := range 200 {
		for _, key := range []string{text(n, 5), strings.Repeat("\x36", n), strings.Repeat("\x5c", n), strings.Repeat("\xff", n)} {
			if got, want := Sum(key, "a text"), publishedSum(key, "a text"); got != want {
				t.Errorf("Sum under %x = %x, want %x", key, got, want)
			}
		}
	}
}

func TestSumOfTextsOfManyLengths(t *testing.T) {
	for _, n := range []int{0, 1, 54, 55, 56, 63, 64, 65, 119, 120, 127, 128, 129, 1518, 8192, 100001} {
		for _, key := range []string{"", "key", text(64, 3), text(65, 3)} {
			if got, want := Sum(key, text(n, 9)), publishedSum(key, text(n, 9)); got != want {
				t.Errorf("Sum of %d bytes under %x = %x, want %x", n, key, got, want)
			}
		}
	}
}

// 2.1: roots.

func TestRootIsUnderTheSalt(t *testing.T) {
	for _, c := range []struct{ salt, secret string }{
		{"", ""}, {"", "secret"}, {"salt", ""}, {"salt", "secret"}, {"secret", "salt"},
		{text(64, 1), text(32, 2)}, {text(65, 1), text(300, 2)},
	} {
		want, err := hkdf.Extract(sha256.New, []byte(c.secret), []byte(c.salt))
		if err != nil {
			t.Fatal(err)
		}
		if got := Root(c.salt, c.secret); got != api.Key(want) {
			t.Errorf("Root(%x, %x) = %x, want %x", c.salt, c.secret, got, want)
		}
	}
}

// The secrets of RFC 5869; what is published of the last key is a piece of it.
func TestRootAndKeysAsPublished(t *testing.T) {
	run := func(from, to int) string {
		out := ""
		for b := from; b <= to; b++ {
			out += string([]byte{byte(b)})
		}
		return out
	}
	for _, c := range []struct {
		secret, salt, info string
		n                  int
		root, keys         string
	}{
		{strings.Repeat("\x0b", 22), run(0x00, 0x0c), run(0xf0, 0xf9), 2,
			"077709362c2e32df0ddc3f0dc47bba6390b6c73bb50f9c3122ec844ad7c2b3e5",
			"3cb25f25faacd57a90434f64d0362f2a2d2d0a90cf1a5a4c5db02d56ecc4c5bf34007208d5b887185865"},
		{run(0x00, 0x4f), run(0x60, 0xaf), run(0xb0, 0xff), 3,
			"06a6b88c5853361a06104c9ceb35b45cef760014904671014a193f40c15fc244",
			"b11e398dc80327a1c8e7f78c596a49344f012eda2d4efad8a050cc4c19afa97c" +
				"59045a99cac7827271cb41c65e590e09da3275600c2f09b8367793a9aca3db71" +
				"cc30c58179ec3e87c14c01d5c1f3434f1d87"},
		{strings.Repeat("\x0b", 22), "", "", 2,
			"19ef24a32c717b167f33a91d6f648bdf96596776afdb6377ac434c1c293ccb04",
			"8da4e775a563c18f715f802a063c5a31b8a11f5c5ee1879ec3454e5f3c738d2d9d201395faa4b61a96c8"},
	} {
		root := Root(c.salt, c.secret)
		if got := asHex(root); got != c.root {
			t.Errorf("Root(%x, %x) = %s, want %s", c.salt, c.secret, got, c.root)
		}
		keys := Keys(root, c.info, c.n)
		if got := asHex(keys...); len(keys) != c.n || !strings.HasPrefix(got, c.keys) {
			t.Errorf("Keys(%x, %x, %d) = %s, want %s ..", root, c.info, c.n, got, c.keys)
		}
	}
}

// 2.1: keys of a root.

func TestKeysOfAllCounts(t *testing.T) {
	root := Root("salt", "secret")
	want := publishedKeys(t, root, "info", 255)
	for n := 0; n <= 255; n++ {
		keys := Keys(root, "info", n)
		if len(keys) != n || asHex(keys...) != want[:64*n] {
			t.Errorf("Keys(.., %d) are %d: %s, want %s", n, len(keys), asHex(keys...), want[:64*n])
		}
	}
}

func TestKeysOfManyInfos(t *testing.T) {
	for _, root := range []api.Key{{}, Root("a", "b"), api.Key([]byte(strings.Repeat("\xff", 32)))} {
		for _, n := range []int{0, 1, 31, 32, 33, 64, 500} {
			info := text(n, 7)
			if got, want := asHex(Keys(root, info, 4)...), publishedKeys(t, root, info, 4); got != want {
				t.Errorf("Keys(%x, %x, 4) = %s, want %s", root, info, got, want)
			}
		}
	}
}

func TestKeysOutside(t *testing.T) {
	for _, n := range []int{math.MinInt, -256, -255, -1, 0, 256, 257, 511, 512, math.MaxInt} {
		if got := Keys(Root("salt", "secret"), "info", n); len(got) != 0 {
			t.Errorf("Keys(.., %d) are %d, want nothing", n, len(got))
		}
	}
}

func TestKeysAreNewMemory(t *testing.T) {
	root := Root("salt", "secret")
	want := asHex(Keys(root, "info", 3)...)
	kept := Keys(root, "info", 3)
	spoilt := Keys(root, "info", 3)
	clear(spoilt[:cap(spoilt)])
	if got := asHex(kept...); got != want {
		t.Errorf("keys answered earlier are %s behind an answer that was changed, want %s", got, want)
	}
	if got := asHex(Keys(root, "info", 3)...); got != want {
		t.Errorf("Keys = %s behind an answer that was changed, want %s", got, want)
	}
}

// 2.2: whether texts are alike.

func TestSameOfAlikeTexts(t *testing.T) {
	for n := range 300 {
		if !Same(text(n, 3), strings.Clone(text(n, 3))) {
			t.Errorf("texts of %d bytes aren't the same as themselves", n)
		}
	}
}

func TestSameOfOneUnlikeBit(t *testing.T) {
	a := text(70, 3)
	for i := range len(a) {
		for bit := range 8 {
			changed := []byte(a)
			changed[i] ^= 1 << bit
			if b := string(changed); Same(a, b) || Same(b, a) {
				t.Errorf("the same, though bit %d of byte %d is unlike", bit, i)
			}
		}
	}
}

func TestSameOfUnlikeLengths(t *testing.T) {
	for _, tail := range []string{"\x00", "a", strings.Repeat("\x00", 255), strings.Repeat("\x00", 256), strings.Repeat("a", 256)} {
		for _, a := range []string{"", "\x00", "a", text(32, 3)} {
			if Same(a, a+tail) || Same(a+tail, a) {
				t.Errorf("%x is the same with %x behind", a, tail)
			}
		}
	}
}

// What is unlike at several places must not add up to nothing.
func TestSameOfManyUnlikeBytes(t *testing.T) {
	for _, c := range []struct{ a, b string }{
		{"ab", "ba"},
		{"\x00\x00", "\x01\x01"},
		{"\x00\x00", "\x80\x80"},
		{"\x01\x02", "\x02\x01"},
		{"\xff\xfe", "\xfe\xff"},
		{strings.Repeat("\x00", 256), strings.Repeat("\x01", 256)},
		{strings.Repeat("ab", 128), strings.Repeat("ba", 128)},
	} {
		if Same(c.a, c.b) || Same(c.b, c.a) {
			t.Errorf("%x and %x are the same", c.a, c.b)
		}
	}
}

// 2.3: zero bytes behind a key.

func TestZerosBehindAKey(t *testing.T) {
	for _, n := range []int{0, 1, 4, 20, 32, 62, 63, 64} {
		key := text(n, 11)
		want := Sum(key, "a text")
		for zeros := range 64 - n + 1 {
			if got := Sum(key+strings.Repeat("\x00", zeros), "a text"); got != want {
				t.Errorf("Sum under a key of %d bytes with %d zero bytes behind = %x, want %x", n, zeros, got, want)
			}
		}
		if Sum(key+strings.Repeat("\x00", 65-n), "a text") == want {
			t.Errorf("the sum under a key of %d bytes is the same with zero bytes up to 65", n)
		}
		if n > 0 && Sum("\x00"+key[:n-1], "a text") == want {
			t.Errorf("the sum under a key of %d bytes is the same with a zero byte ahead", n)
		}
	}
}

func TestLongKeyIsItsSum(t *testing.T) {
	for _, n := range []int{63, 64, 65, 66, 128, 1000} {
		key := text(n, 11)
		sum := sha.Sum(key)
		alike := Sum(key, "a text") == Sum(string(sum[:]), "a text")
		if alike != (n > 64) {
			t.Errorf("a key of %d bytes: taken as its sum is %v", n, alike)
		}
	}
}

// 2.3: the first keys, however many are asked for.

func TestFirstKeysAreTheSame(t *testing.T) {
	for _, info := range []string{"", "info", text(100, 13)} {
		root := Root(info, "secret")
		all := Keys(root, info, 255)
		for n := range 255 {
			if got := Keys(root, info, n); !slices.Equal(got, all[:n]) {
				t.Errorf("the first %d keys are others when 255 are asked for", n)
			}
		}
	}
}

package curve

import (
	"crypto/ecdh"
	"encoding/hex"
	"math/big"
	"slices"
	"testing"

	"causey/api"
)

// keyOf answers a key, unlike for each seed.
func keyOf(seed int) api.Key {
	var k api.Key
	for i := range k {
		k[i] = byte(i*i*13 + (i+1)*seed + seed*seed/7 + seed>>8*(i+3))
	}
	return k
}

func unhex(t *testing.T, s string) api.Key {
	t.Helper()
	out, err := hex.DecodeString(s)
	if err != nil || len(out) != 32 {
		t.Fatalf("%s is no key", s)
	}
	return api.Key(out)
}

// The reference goes by numbers of any size, and by the chapter's words.

func number(n int64) *big.Int { return big.NewInt(n) }

func power(n uint) *big.Int { return new(big.Int).Lsh(number(1), n) }

// by is what rests are taken by: 2^255 - 19.
func by() *big.Int { return plus(power(255), -19) }

func plus(n *big.Int, more int64) *big.Int { return new(big.Int).Add(n, number(more)) }

func mod(n *big.Int) *big.Int { return new(big.Int).Mod(n, by()) }

func bigSum(x, y *big.Int) *big.Int { return mod(new(big.Int).Add(x, y)) }

func bigDifference(x, y *big.Int) *big.Int { return mod(new(big.Int).Sub(x, y)) }

func bigProduct(x, y *big.Int) *big.Int { return mod(new(big.Int).Mul(x, y)) }

func bigInverse(x *big.Int) *big.Int { return new(big.Int).Exp(x, plus(by(), -2), by()) }

func bigOfKey(k api.Key) *big.Int {
	b := slices.Clone(k[:])
	slices.Reverse(b)
	return new(big.Int).SetBytes(b)
}

// keyOfBig answers a number below 2^256 as a key.
func keyOfBig(n *big.Int) api.Key {
	b := n.FillBytes(make([]byte, 32))
	slices.Reverse(b)
	return api.Key(b)
}

func bigOfWords(l []uint64) *big.Int {
	n := new(big.Int)
	for i := range l {
		n.Lsh(n, 64)
		n.Or(n, new(big.Int).SetUint64(l[len(l)-1-i]))
	}
	return n
}

// wordsOfBig puts a number's words into l, the lowest first.
func wordsOfBig(n *big.Int, l []uint64) {
	for i := range l {
		shifted := new(big.Int).Rsh(n, uint(64*i))
		l[i] = shifted.And(shifted, plus(power(64), -1)).Uint64()
	}
}

func elementOfBig(n *big.Int) element {
	var x element
	wordsOfBig(n, x[:])
	return x
}

func referencePlace(k api.Key) *big.Int {
	return mod(new(big.Int).SetBit(bigOfKey(k), 255, 0))
}

func referenceScalar(k api.Key) *big.Int {
	n := bigOfKey(k)
	for _, bit := range []int{0, 1, 2, 255} {
		n.SetBit(n, bit, 0)
	}
	return n.SetBit(n, 254, 1)
}

func referenceShared(secret, public api.Key) api.Key {
	scalar, u := referenceScalar(secret), referencePlace(public)
	x, z, w, t := number(1), number(0), u, number(1)
	for bit := 254; bit >= 0; bit-- {
		if scalar.Bit(bit) == 1 {
			x, z, w, t = w, t, x, z
		}
		e, g := bigSum(x, z), bigDifference(x, z)
		f, h := bigProduct(e, e), bigProduct(g, g)
		i := bigDifference(f, h)
		j, k := bigProduct(bigDifference(w, t), e), bigProduct(bigSum(w, t), g)
		both, off := bigSum(j, k), bigDifference(j, k)
		w, t = bigProduct(both, both), bigProduct(u, bigProduct(off, off))
		x, z = bigProduct(f, h), bigProduct(i, bigSum(f, bigProduct(number(121665), i)))
		if scalar.Bit(bit) == 1 {
			x, z, w, t = w, t, x, z
		}
	}
	return keyOfBig(bigProduct(x, bigInverse(z)))
}

// edgeNumbers answers numbers below 2^255 at which something is carried, or is about p.
func edgeNumbers() []*big.Int {
	out := []*big.Int{number(0), plus(power(255), -1)}
	for _, n := range []uint{32, 51, 63, 64, 127, 128, 191, 192, 253, 254} {
		out = append(out, plus(power(n), -1), power(n), plus(power(n), 1))
	}
	for _, n := range []int64{1, 2, 9, 18, 19, 20, 37, 38, 39, 121665, 121666} {
		out = append(out, number(n), plus(by(), -n), plus(power(254), -n))
	}
	for n := int64(0); n < 19; n++ {
		out = append(out, plus(by(), n))
	}
	half := new(big.Int).Rsh(by(), 1)
	out = append(out, half, plus(half, 1), plus(half, 10))
	for at := uint(0); at < 256; at += 64 { // words that are full, or empty, alone
		word := new(big.Int).Lsh(plus(power(64), -1), at)
		word.SetBit(word, 255, 0)
		out = append(out, word, new(big.Int).Xor(word, plus(power(255), -1)))
	}
	for seed := range 8 {
		out = append(out, new(big.Int).SetBit(bigOfKey(keyOf(31*seed+5)), 255, 0))
	}
	return out
}

func edgeElements() []*big.Int {
	var out []*big.Int
	for _, n := range edgeNumbers() {
		if n.Cmp(by()) < 0 {
			out = append(out, n)
		}
	}
	return out
}

func withTopBit(k api.Key) api.Key {
	k[31] |= 0x80
	return k
}

func sameShared(t *testing.T, secret, public api.Key) {
	t.Helper()
	if got, want := Shared(secret, public), referenceShared(secret, public); got != want {
		t.Fatalf("Shared(%x, %x) = %x, want %x", secret, public, got, want)
	}
}

// 6.1: shared keys.

func TestSharedOfZeroIsZero(t *testing.T) {
	if got := Shared(api.Key{}, api.Key{}); got != (api.Key{}) {
		t.Errorf("Shared of 0, the public key 0, = %x", got)
	}
}

// RFC 7748, 5.2.
func TestSharedAsPublished(t *testing.T) {
	for _, c := range []struct{ secret, public, want string }{
		{"a546e36bf0527c9d3b16154b82465edd62144c0ac1fc5a18506a2244ba449ac4", "e6db6867583030db3594c1a424b15f7c726624ec26b3353b10a903a6d0ab1c4c", "c3da55379de9c6908e94ea4df28d084f32eccf03491c71f754b4075577a28552"},
		{"4b66e9d4d1b4673c5ad22691957d6af5c11b6421e0ea01d42ca4169e7918ba0d", "e5210f12786811d3f4b7959d0538ae2c31dbe7106fc03c3efc4cd549c715a493", "95cbde9476e8907d7aade45cb4b873f88b595a68799fa152e6f8f7647aac7957"},
	} {
		if got := Shared(unhex(t, c.secret), unhex(t, c.public)); got != unhex(t, c.want) {
			t.Errorf("Shared(%s, %s) = %x, want %s", c.secret, c.public, got, c.want)
		}
	}
}

// RFC 7748, 5.2: each secret is what was shared ahead of it, and each public key the secret ahead.
func TestSharedAgainAndAgainAsPublished(t *testing.T) {
	secret, public := api.Key{9}, api.Key{9}
	wanted := map[int]string{
		1:    "422c8e7a6227d7bca1350b3e2bb7279f7897b87bb6854b783c60e80311ae3079",
		1000: "684cf59ba83309552800ef566f2f4d3c1c3887c49360e3875f2eb94d99532c51",
	}
	for n := 1; n <= 1000; n++ {
		secret, public = Shared(secret, public), secret
		if want, ok := wanted[n]; ok && secret != unhex(t, want) {
			t.Errorf("behind %d times: %x, want %s", n, secret, want)
		}
	}
}

// RFC 7748, 6.1.
func TestPublicAsPublished(t *testing.T) {
	alice := unhex(t, "77076d0a7318a57d3c16c17251b26645df4c2f87ebc0992ab177fba51db92c2a")
	bob := unhex(t, "5dab087e624a8a4b79e17f8b83800ee66f3bb1292618b6fd1c2f8b27ff88e0eb")
	alicePublic := unhex(t, "8520f0098930a754748b7ddcb43ef75a0dbf3a0d26381af4eba4a98eaa9b4e6a")
	bobPublic := unhex(t, "de9edb7d7b7dc1b4d35b61c2ece435373f8343c85b78674dadfc7e146f882b4f")
	shared := unhex(t, "4a5d9d5ba4ce2de1728e3bf480350f25e07e21c947d19e3376f09b3c1e161742")
	if got := Public(alice); got != alicePublic {
		t.Errorf("Public(%x) = %x", alice, got)
	}
	if got := Public(bob); got != bobPublic {
		t.Errorf("Public(%x) = %x", bob, got)
	}
	if a, b := Shared(alice, bobPublic), Shared(bob, alicePublic); a != shared || b != shared {
		t.Errorf("Shared = %x and %x, want %x", a, b, shared)
	}
}

func TestSharedIsTheLadderAtEdges(t *testing.T) {
	secrets := []api.Key{{}, {1}, {8}, keyOf(3), withTopBit(keyOf(4)), keyOfBig(plus(power(256), -1)), keyOfBig(by())}
	for _, u := range edgeNumbers() {
		for _, secret := range secrets {
			sameShared(t, secret, keyOfBig(u))
		}
		sameShared(t, keyOfBig(u), keyOf(7))
	}
}

func TestSharedIsTheLadderOfManyKeys(t *testing.T) {
	for seed := range 100 {
		sameShared(t, keyOf(seed), keyOf(5*seed+1))
	}
}

// The library's own X25519 is a second reference; it refuses what comes to 0.
func TestSharedAsTheLibrarySays(t *testing.T) {
	for seed := range 2000 {
		secret, public := keyOf(seed), keyOf(7*seed+3)
		own, err := ecdh.X25519().NewPrivateKey(secret[:])
		if err != nil {
			t.Fatal(err)
		}
		other, err := ecdh.X25519().NewPublicKey(public[:])
		if err != nil {
			t.Fatal(err)
		}
		want, err := own.ECDH(other)
		if err != nil {
			t.Fatal(err)
		}
		if got := Shared(secret, public); string(got[:]) != string(want) {
			t.Fatalf("Shared(%x, %x) = %x, want %x", secret, public, got, want)
		}
		if got := Public(secret); string(got[:]) != string(own.PublicKey().Bytes()) {
			t.Fatalf("Public(%x) = %x, want %x", secret, got, own.PublicKey().Bytes())
		}
	}
}

func TestPublicIsSharedWithNine(t *testing.T) {
	nines := []api.Key{{9}, withTopBit(api.Key{9}), keyOfBig(plus(by(), 9))}
	for seed := range 30 {
		want := Public(keyOf(seed))
		for _, nine := range nines {
			if got := Shared(keyOf(seed), nine); got != want {
				t.Errorf("Shared(%x, %x) = %x, want %x", keyOf(seed), nine, got, want)
			}
		}
	}
}

// A public key's bit 255 doesn't count, and its number counts by its rest.
func TestSharedTakesAPublicKeysPlace(t *testing.T) {
	for n := int64(0); n < 19; n++ {
		low, same := keyOfBig(number(n)), keyOfBig(plus(by(), n))
		want := Shared(keyOf(3), low)
		for _, public := range []api.Key{withTopBit(low), same, withTopBit(same)} {
			if got := Shared(keyOf(3), public); got != want {
				t.Errorf("Shared of %x = %x, of %d %x", public, got, n, want)
			}
		}
	}
	for seed := range 30 {
		k := keyOf(seed)
		k[31] &= 0x7f
		if Shared(keyOf(5), withTopBit(k)) != Shared(keyOf(5), k) {
			t.Errorf("bit 255 of %x counts", k)
		}
	}
}

// At places of small order all that is shared is 0, and that is answered as it is.
func TestSharedOfPlacesOfSmallOrder(t *testing.T) {
	publics := []api.Key{
		{}, {1}, keyOfBig(plus(by(), -1)), keyOfBig(by()), keyOfBig(plus(by(), 1)),
		unhex(t, "e0eb7a7c3b41b8ae1656e3faf19fc46ada098deb9c32b1fd866205165f49b800"),
		unhex(t, "5f9c95bca3508c24b1d0b1559c83ef5b04445cc4581c8e86d8224eddd09f1157"),
	}
	for _, public := range publics {
		for seed := range 10 {
			for _, p := range []api.Key{public, withTopBit(public)} {
				if got := Shared(keyOf(seed), p); got != (api.Key{}) {
					t.Errorf("Shared(%x, %x) = %x, want 0", keyOf(seed), p, got)
				}
			}
		}
	}
}

// 6.1: scalars.

func TestClampOfEachBit(t *testing.T) {
	for bit := range 256 {
		one := keyOfBig(power(uint(bit)))
		want := api.Key{31: 0x40}
		switch bit {
		case 0, 1, 2, 254, 255:
		default:
			want[bit/8] |= 1 << (bit % 8)
		}
		if got := Clamp(one); got != want {
			t.Errorf("Clamp of bit %d alone = %x, want %x", bit, got, want)
		}
	}
}

func TestClampOfAllAndOfNoBits(t *testing.T) {
	want := unhex(t, "f8ffffffffffffffffffffffffffffffffffffffffffffffffffffffffffff7f")
	if got := Clamp(keyOfBig(plus(power(256), -1))); got != want {
		t.Errorf("Clamp of all bits = %x", got)
	}
	if got := Clamp(api.Key{}); got != (api.Key{31: 0x40}) {
		t.Errorf("Clamp of no bits = %x", got)
	}
}

func TestClampOfManyKeys(t *testing.T) {
	for seed := range 500 {
		k := keyOf(seed)
		got := Clamp(k)
		if got != keyOfBig(referenceScalar(k)) {
			t.Errorf("Clamp(%x) = %x", k, got)
		}
		if Clamp(got) != got {
			t.Errorf("Clamp(%x), again, is another one", k)
		}
	}
}

// 6.2: products and inverses.

func TestMulOfEdges(t *testing.T) {
	for _, x := range edgeNumbers() {
		for _, y := range edgeNumbers() {
			want := keyOfBig(bigProduct(x, y))
			a, b := keyOfBig(x), keyOfBig(y)
			if got := Mul(a, b); got != want {
				t.Fatalf("Mul(%x, %x) = %x, want %x", a, b, got, want)
			}
			if Mul(withTopBit(a), b) != want || Mul(a, withTopBit(b)) != want {
				t.Fatalf("bit 255 counts in Mul(%x, %x)", a, b)
			}
		}
	}
}

func TestMulOfManyKeys(t *testing.T) {
	for seed := range 5000 {
		a, b := keyOf(seed), keyOf(5*seed+1)
		want := keyOfBig(bigProduct(referencePlace(a), referencePlace(b)))
		if got := Mul(a, b); got != want {
			t.Fatalf("Mul(%x, %x) = %x, want %x", a, b, got, want)
		}
	}
}

// Products that lie about 0 by p are the ones that are too great most easily.
func TestMulThatComesToAboutZero(t *testing.T) {
	for seed := range 500 {
		x := referencePlace(keyOf(seed))
		for off := int64(-20); off <= 20; off++ {
			y := bigProduct(bigInverse(x), number(off))
			if got := Mul(keyOfBig(x), keyOfBig(y)); got != keyOfBig(mod(number(off))) {
				t.Fatalf("Mul(%x, %x) = %x, want what is %d", keyOfBig(x), keyOfBig(y), got, off)
			}
		}
	}
}

func TestMulByOneIsThePlace(t *testing.T) {
	for _, x := range edgeNumbers() {
		for _, a := range []api.Key{keyOfBig(x), withTopBit(keyOfBig(x))} {
			if got := Mul(a, api.Key{1}); got != keyOfBig(mod(x)) {
				t.Errorf("Mul(%x, 1) = %x", a, got)
			}
		}
	}
}

func sameInverse(t *testing.T, a api.Key) {
	t.Helper()
	place := referencePlace(a)
	want := keyOfBig(bigInverse(place))
	if got := Inv(a); got != want {
		t.Fatalf("Inv(%x) = %x, want %x", a, got, want)
	}
	if product := Mul(a, want); place.Sign() != 0 && product != (api.Key{1}) {
		t.Fatalf("Mul(%x, %x) = %x, want 1", a, want, product)
	}
}

func TestInvOfEdges(t *testing.T) {
	for _, x := range edgeNumbers() {
		sameInverse(t, keyOfBig(x))
		sameInverse(t, withTopBit(keyOfBig(x)))
	}
}

func TestInvOfKnownNumbers(t *testing.T) {
	less := keyOfBig(plus(by(), -1))
	half := keyOfBig(new(big.Int).Rsh(plus(by(), 1), 1))
	for _, c := range []struct{ a, want api.Key }{
		{api.Key{}, api.Key{}},
		{withTopBit(api.Key{}), api.Key{}},
		{keyOfBig(by()), api.Key{}},
		{withTopBit(keyOfBig(by())), api.Key{}},
		{api.Key{1}, api.Key{1}},
		{keyOfBig(plus(by(), 1)), api.Key{1}},
		{less, less},
		{api.Key{2}, half},
		{half, api.Key{2}},
	} {
		if got := Inv(c.a); got != c.want {
			t.Errorf("Inv(%x) = %x, want %x", c.a, got, c.want)
		}
	}
}

// 6.3: what two make.

func TestTwoMakeTheSame(t *testing.T) {
	for seed := range 200 {
		a, b := keyOf(seed), keyOf(11*seed+2)
		own, other := Shared(a, Public(b)), Shared(b, Public(a))
		if own != other {
			t.Errorf("of %x and %x: %x and %x", a, b, own, other)
		}
		if own == (api.Key{}) || own == Shared(keyOf(seed+1), Public(b)) {
			t.Errorf("of %x and %x comes what comes of others: %x", a, b, own)
		}
	}
}

// Not of 9 alone: of any place.
func TestTwoMakeTheSameOfAnyPlace(t *testing.T) {
	for _, u := range edgeNumbers() {
		a, b, place := keyOf(17), keyOf(29), keyOfBig(u)
		if Shared(a, Shared(b, place)) != Shared(b, Shared(a, place)) {
			t.Errorf("of the place %x come two", place)
		}
	}
}

// 6.3: a secret is as its scalar is.

func TestSecretIsAsItsScalar(t *testing.T) {
	for seed := range 100 {
		secret, public := keyOf(seed), keyOf(3*seed+1)
		if Shared(secret, public) != Shared(Clamp(secret), public) || Public(secret) != Public(Clamp(secret)) {
			t.Errorf("%x isn't as its scalar is", secret)
		}
	}
}

func TestOtherBitsOfASecretCount(t *testing.T) {
	for seed := range 3 {
		secret := keyOf(seed)
		want := Public(secret)
		for bit := range 256 {
			other := secret
			other[bit/8] ^= 1 << (bit % 8)
			same := bit < 3 || bit > 253
			if got := Public(other); (got == want) != same {
				t.Errorf("with bit %d of %x another one, the public key is %x, ahead of it %x", bit, secret, got, want)
			}
		}
	}
}

// 6.3: inverses.

func TestInverseMakesOne(t *testing.T) {
	for seed := range 500 {
		a := keyOf(seed)
		if got := Mul(a, Inv(a)); got != (api.Key{1}) {
			t.Errorf("Mul(%x, Inv of it) = %x", a, got)
		}
		if got := Inv(Inv(a)); got != Mul(a, api.Key{1}) {
			t.Errorf("Inv of Inv(%x) = %x", a, got)
		}
	}
}

// What the functions are made of: elements, each below p.

func TestSumsAndDifferencesOfEdges(t *testing.T) {
	for _, x := range edgeElements() {
		for _, y := range edgeElements() {
			a, b := elementOfBig(x), elementOfBig(y)
			if got := sum(a, b); got != elementOfBig(bigSum(x, y)) {
				t.Fatalf("sum(%x, %x) = %x", a, b, got)
			}
			if got := difference(a, b); got != elementOfBig(bigDifference(x, y)) {
				t.Fatalf("difference(%x, %x) = %x", a, b, got)
			}
		}
	}
}

func TestRestAboutMultiples(t *testing.T) {
	for _, about := range []*big.Int{number(0), by(), power(255), bigDouble(by()), power(256)} {
		for off := int64(-60); off <= 60; off++ {
			n := plus(about, off)
			if n.Sign() < 0 || n.BitLen() > 256 {
				continue
			}
			if got := rest(elementOfBig(n)); got != elementOfBig(mod(n)) {
				t.Errorf("rest(%x) = %x", n, got)
			}
		}
	}
}

func bigDouble(n *big.Int) *big.Int { return new(big.Int).Lsh(n, 1) }

// Numbers of eight words, high parts and low parts at their edges: no part of them is lost.
func TestFoldedOfEdges(t *testing.T) {
	for _, high := range edgeNumbers() {
		for _, low := range edgeNumbers() {
			n := new(big.Int).Add(new(big.Int).Lsh(high, 255), low)
			var l [wideWords]uint64
			wordsOfBig(n, l[:])
			got := folded(l)
			if mod(bigOfWords(got[:])).Cmp(mod(n)) != 0 {
				t.Fatalf("folded(%x) = %x", n, got)
			}
		}
	}
}

func TestSwappedOnlyIfTheBitIsOne(t *testing.T) {
	a := point{elementOfBig(number(1)), elementOfBig(plus(by(), -1))}
	b := point{elementOfBig(power(200)), elementOfBig(number(7))}
	if x, y := swapped(a, b, 0); x != a || y != b {
		t.Errorf("swapped by 0: %x, %x", x, y)
	}
	if x, y := swapped(a, b, 1); x != b || y != a {
		t.Errorf("swapped by 1: %x, %x", x, y)
	}
}

// Rules 4 and 6: what is handed in isn't changed, and what is answered hangs on it alone.

func TestAnswersHangOnArgumentsAlone(t *testing.T) {
	a, b := withTopBit(keyOf(3)), withTopBit(keyOf(5))
	shared, public, scalar, product, inverse := Shared(a, b), Public(a), Clamp(a), Mul(a, b), Inv(a)
	Shared(keyOf(8), keyOf(9))
	Inv(api.Key{})
	if a != withTopBit(keyOf(3)) || b != withTopBit(keyOf(5)) {
		t.Error("what was handed in is changed")
	}
	if Shared(a, b) != shared || Public(a) != public || Clamp(a) != scalar || Mul(a, b) != product || Inv(a) != inverse {
		t.Error("answers are others behind other calls")
	}
}

package noise

import (
	"bytes"
	"crypto/ecdh"
	"crypto/hkdf"
	"crypto/sha256"
	"encoding/hex"
	"testing"
	"unsafe"

	"causey/aead"
	"causey/api"
)

// some answers n bytes, unlike for each seed.
func some(n, seed int) string {
	out := make([]byte, n)
	for i := range out {
		out[i] = byte(i*i + (i+1)*seed*7 + seed*seed/3 + i/16)
	}
	return string(out)
}

func keyOf(seed int) api.Key { return api.Key([]byte(some(32, seed))) }

func upFrom(first int) (k api.Key) {
	for i := range k {
		k[i] = byte(first + i)
	}
	return k
}

func all(b byte) api.Key { return api.Key(bytes.Repeat([]byte{b}, 32)) }

// changed answers a text with one bit of one byte another one.
func changed(s string, at int) string {
	out := []byte(s)
	out[at] ^= 1 << (at % 8)
	return string(out)
}

// secrets are the shared one, the greeter's new one, the answerer's new one.
type secrets struct{ psk, greeter, answerer api.Key }

func manySecrets() []secrets {
	list := []secrets{
		{},
		{all(255), all(255), all(255)},
		{api.Key{}, keyOf(1), keyOf(1)},
		{keyOf(2), api.Key{}, keyOf(3)},
		{keyOf(2), keyOf(3), api.Key{}},
		{api.Key{31: 1}, api.Key{31: 128}, api.Key{0: 7}},
	}
	for seed := range 12 {
		list = append(list, secrets{keyOf(3*seed + 5), keyOf(3*seed + 6), keyOf(3*seed + 7)})
	}
	return list
}

// talked is what a whole talk tells.
type talked struct {
	greeting, answer          string
	greeterKeys, answererKeys Keys
}

func talk(t *testing.T, s secrets) talked {
	t.Helper()
	end, greeting := Greet(s.psk, s.greeter)
	answer, answererKeys, errno := Answer(s.psk, s.answerer, greeting)
	if errno != api.OK {
		t.Fatalf("%x: Answer = %d", s, errno)
	}
	greeterKeys, errno := end.Finish(answer)
	if errno != api.OK {
		t.Fatalf("%x: Finish = %d", s, errno)
	}
	return talked{greeting, answer, greeterKeys, answererKeys}
}

// 13.1, the chapter's example.
func TestGreetingHas48Bytes(t *testing.T) {
	for _, s := range manySecrets() {
		end, greeting := Greet(s.psk, s.greeter)
		if end == nil || len(greeting) != 48 {
			t.Errorf("Greet: %v, %d bytes", end != nil, len(greeting))
		}
		answer, _, errno := Answer(s.psk, s.answerer, greeting)
		if errno != api.OK || len(answer) != 48 {
			t.Errorf("Answer: %d, %d bytes", errno, len(answer))
		}
	}
}

// 13.1: bytes that another program made, of the handshake as it is published.
func TestKnownTalks(t *testing.T) {
	for _, known := range []struct {
		secrets
		greeting, answer, first, second string
	}{
		{
			secrets{api.Key{1, 2, 3}, api.Key{4, 5}, api.Key{6, 7}},
			"490fbb2ed99c67f2f8bf028eaf2076caf664199332ead8e19dd0b60f8dcaab7e5760579d4aea35da59a29da34b5bb770",
			"c233f7bccf8c7a9f2c1c582d1a578885f0998ec8f7e276727178adc0dab89d0e7bd9d47456ba5e4a8bcc2e4d4e160990",
			"33a5ef000f109b7d82f6cf0142241e8aa7d5456975d7f6d4abdb95af5aee224a",
			"80680fca9d697a10c146516d2698b127adeb5907ecf5164fda00b8db62ddcdd6",
		},
		{
			secrets{upFrom(0), upFrom(32), upFrom(64)},
			"358072d6365880d1aeea329adf9121383851ed21a28e3b75e965d0d2cd166254441b8b4df790151a7661223ef606e752",
			"79a631eede1bf9c98f12032cdeadd0e7a079398fc786b88cc846ec89af85a51aa057468391378b6963ebfedd4ffa45ac",
			"810cde8f99b1a2a5a863e41b93fd1c11b29ab8fee3f3edcb662e163b245164ca",
			"f8ca9cf382ec15ac3609fa976595baafec96af6729b05edab8e41839ed09f6cd",
		},
		{
			secrets{},
			"2fe57da347cd62431528daac5fbb290730fff684afc4cfc2ed90995f58cb3b74895973d608170fb414023e815f2b5681",
			"2fe57da347cd62431528daac5fbb290730fff684afc4cfc2ed90995f58cb3b74115f13033b0cb6a16264e863ec747fa1",
			"a18d57d3d5388e5a9b96a4c11852a51d3cb8f860d8885f7d98d66b91a681ba26",
			"b4dd3e99d873fff4f16da5bc158078426907b88d58fd341eb6317a80d223ada0",
		},
		{
			secrets{all(255), all(255), all(255)},
			"847c0d2c375234f365e660955187a3735a0f7613d1609d3a6a4d8c53aeaa5a2299068172fd1f368ea6906bc03419be79",
			"847c0d2c375234f365e660955187a3735a0f7613d1609d3a6a4d8c53aeaa5a227c1de3fcf0b1116611aa1ed59a03ac1a",
			"e6499194f2eaa0b6ad45d7757fca299f5e7a46987bfecbdb2a2f09acdfa0c731",
			"c0491470fcbb6fc92cb6925df65f98b9100a0dda955c2508969e68923cb5008b",
		},
	} {
		got := talk(t, known.secrets)
		for _, pair := range [][2]string{
			{hex.EncodeToString([]byte(got.greeting)), known.greeting},
			{hex.EncodeToString([]byte(got.answer)), known.answer},
			{hex.EncodeToString(got.greeterKeys.Send[:]), known.first},
			{hex.EncodeToString(got.greeterKeys.Take[:]), known.second},
			{hex.EncodeToString(got.answererKeys.Send[:]), known.second},
			{hex.EncodeToString(got.answererKeys.Take[:]), known.first},
		} {
			if pair[0] != pair[1] {
				t.Errorf("%x: %s, wanted %s", known.secrets, pair[0], pair[1])
			}
		}
	}
}

// The second reading goes by Go's own sums, keys and curve; for a seal by layer 5, which has a reference of its own.
type reading struct{ h, c, k []byte }

func (r *reading) takeH(s []byte) {
	sum := sha256.Sum256(append(bytes.Clone(r.h), s...))
	r.h = sum[:]
}

func (r *reading) expand(t *testing.T, s []byte, n int) []byte {
	t.Helper()
	keys, err := hkdf.Key(sha256.New, s, r.c, "", 32*n)
	if err != nil {
		t.Fatal(err)
	}
	return keys
}

func (r *reading) takeC(t *testing.T, s []byte) {
	keys := r.expand(t, s, 2)
	r.c, r.k = keys[:32], keys[32:]
}

func (r *reading) takeSecret(t *testing.T, s []byte) {
	keys := r.expand(t, s, 3)
	r.c, r.k = keys[:32], keys[64:]
	r.takeH(keys[32:64])
}

func (r *reading) seal(t *testing.T) string {
	sealed, errno := aead.Seal(api.Key(r.k), string(make([]byte, 12)), string(r.h), "")
	if errno != api.OK {
		t.Fatal(errno)
	}
	r.takeH([]byte(sealed))
	return sealed
}

func wantedBegin(t *testing.T, psk api.Key) *reading {
	first := sha256.Sum256([]byte("Noise_NNpsk0_25519_ChaChaPoly_SHA256"))
	r := &reading{h: first[:], c: first[:]}
	r.takeH(nil)
	r.takeSecret(t, psk[:])
	return r
}

func wantedPublic(t *testing.T, secret api.Key) []byte {
	private, err := ecdh.X25519().NewPrivateKey(secret[:])
	if err != nil {
		t.Fatal(err)
	}
	return private.PublicKey().Bytes()
}

// wantedShared answers zero bytes where Go's own curve refuses to make them.
func wantedShared(t *testing.T, secret api.Key, public []byte) []byte {
	private, err := ecdh.X25519().NewPrivateKey(secret[:])
	if err != nil {
		t.Fatal(err)
	}
	other, err := ecdh.X25519().NewPublicKey(public)
	if err != nil {
		t.Fatal(err)
	}
	shared, err := private.ECDH(other)
	if err != nil {
		return make([]byte, 32)
	}
	return shared
}

// wantedGreeting answers the greeting with a public key, whoever has its secret.
func wantedGreeting(t *testing.T, psk api.Key, public []byte) (*reading, string) {
	r := wantedBegin(t, psk)
	r.takeH(public)
	r.takeC(t, public)
	return r, string(public) + r.seal(t)
}

func wantedAnswer(t *testing.T, r *reading, public, shared []byte) (string, Keys, Keys) {
	r.takeH(public)
	r.takeC(t, public)
	r.takeC(t, shared)
	answer := string(public) + r.seal(t)
	keys := r.expand(t, nil, 2)
	first, second := api.Key(keys[:32]), api.Key(keys[32:])
	return answer, Keys{first, second}, Keys{second, first}
}

// 13.1: the whole talk, as the chapter says it.
func TestTalkIsAsTheChapterSays(t *testing.T) {
	for _, s := range manySecrets() {
		got := talk(t, s)
		public := wantedPublic(t, s.greeter)
		r, greeting := wantedGreeting(t, s.psk, public)
		answer, greeters, answerers := wantedAnswer(t, r, wantedPublic(t, s.answerer), wantedShared(t, s.answerer, public))
		if wanted := (talked{greeting, answer, greeters, answerers}); got != wanted {
			t.Errorf("%x:\n%x, wanted\n%x", s, got, wanted)
		}
	}
}

// oddPublics are public keys that no secret has: of places whose shared keys are 0, of numbers above what they are taken by, and with the highest bit.
func oddPublics() []api.Key {
	above := all(255)
	above[0], above[31] = 0xf0, 0x7f
	return []api.Key{{}, {1}, {2}, {31: 128}, {9, 31: 128}, above, all(255)}
}

// 13.1: a greeting, and an answer, with a public key of whatever bytes.
func TestPublicKeysThatNoSecretHas(t *testing.T) {
	s := secrets{keyOf(1), keyOf(2), keyOf(3)}
	for _, public := range oddPublics() {
		r, greeting := wantedGreeting(t, s.psk, public[:])
		answer, _, answerers := wantedAnswer(t, r, wantedPublic(t, s.answerer), wantedShared(t, s.answerer, public[:]))
		got, keys, errno := Answer(s.psk, s.answerer, greeting)
		if errno != api.OK || got != answer || keys != answerers {
			t.Errorf("Answer of %x = %x, %x, %d", public, got, keys, errno)
		}

		end, _ := Greet(s.psk, s.greeter)
		r, _ = wantedGreeting(t, s.psk, wantedPublic(t, s.greeter))
		answer, greeters, _ := wantedAnswer(t, r, public[:], wantedShared(t, s.greeter, public[:]))
		keys, errno = end.Finish(answer)
		if errno != api.OK || keys != greeters {
			t.Errorf("Finish of %x = %x, %d", public, keys, errno)
		}
	}
}

func refusedAnswer(t *testing.T, psk, secret api.Key, greeting string, wanted api.Errno) {
	t.Helper()
	answer, keys, errno := Answer(psk, secret, greeting)
	if errno != wanted || answer != "" || keys != (Keys{}) {
		t.Errorf("Answer of %d bytes = %x, %x, %d, wanted %d", len(greeting), answer, keys, errno, wanted)
	}
}

func refusedFinish(t *testing.T, end *Talk, answer string, wanted api.Errno) {
	t.Helper()
	keys, errno := end.Finish(answer)
	if errno != wanted || keys != (Keys{}) {
		t.Errorf("Finish of %d bytes = %x, %d, wanted %d", len(answer), keys, errno, wanted)
	}
}

// 13.1: ErrForm of all lengths but 48.
func TestOtherLengths(t *testing.T) {
	s := secrets{keyOf(4), keyOf(5), keyOf(6)}
	whole := talk(t, s)
	end, _ := Greet(s.psk, s.greeter)
	for _, n := range []int{0, 1, 15, 16, 17, 31, 32, 33, 46, 47, 49, 50, 64, 96, 304, 65584} {
		greeting, answer := whole.greeting+some(n, 1), whole.answer+some(n, 2)
		refusedAnswer(t, s.psk, s.answerer, greeting[:n], api.ErrForm)
		refusedFinish(t, end, answer[:n], api.ErrForm)
		refusedFinish(t, nil, answer[:n], api.ErrArg)
	}
	if keys, errno := end.Finish(whole.answer); errno != api.OK || keys != whole.greeterKeys {
		t.Errorf("Finish behind refused answers = %x, %d", keys, errno)
	}
}

// 13.1: ErrOpen of each byte changed, in the public key or behind it.
func TestEachByteChanged(t *testing.T) {
	s := secrets{keyOf(7), keyOf(8), keyOf(9)}
	whole := talk(t, s)
	end, _ := Greet(s.psk, s.greeter)
	for at := range 48 {
		refusedAnswer(t, s.psk, s.answerer, changed(whole.greeting, at), api.ErrOpen)
		refusedFinish(t, end, changed(whole.answer, at), api.ErrOpen)
		if keys, errno := end.Finish(whole.answer); errno != api.OK || keys != whole.greeterKeys {
			t.Fatalf("Finish behind a refused answer = %x, %d", keys, errno)
		}
	}
	// The highest bit of a public key doesn't count for what is made of it, but for what h takes in.
	high := []byte(whole.greeting)
	high[31] ^= 128
	refusedAnswer(t, s.psk, s.answerer, string(high), api.ErrOpen)
	high = []byte(whole.answer)
	high[31] ^= 128
	refusedFinish(t, end, string(high), api.ErrOpen)
}

// 13.1: what is 48 bytes, but no greeting, or no answer to this one.
func TestWhatIsNotMeant(t *testing.T) {
	s := secrets{keyOf(10), keyOf(11), keyOf(12)}
	whole := talk(t, s)
	end, greeting := Greet(s.psk, s.greeter)
	_, foreign := Greet(s.psk, keyOf(13))
	answerToForeign, _, errno := Answer(s.psk, s.answerer, foreign)
	if errno != api.OK {
		t.Fatalf("Answer = %d", errno)
	}
	for _, bytes := range []string{some(48, 1), string(make([]byte, 48)), whole.answer, greeting[:32] + foreign[32:], foreign[:32] + greeting[32:]} {
		refusedAnswer(t, s.psk, s.answerer, bytes, api.ErrOpen)
	}
	for _, bytes := range []string{some(48, 1), string(make([]byte, 48)), greeting, foreign, answerToForeign, whole.answer[:32] + answerToForeign[32:]} {
		refusedFinish(t, end, bytes, api.ErrOpen)
	}
	refusedFinish(t, nil, whole.answer, api.ErrArg)
	refusedFinish(t, nil, some(48, 1), api.ErrArg)
}

// 13.1: a talk is as it was, so it can be finished again, by this answer and by others.
func TestFinishedAgain(t *testing.T) {
	psk := keyOf(14)
	end, greeting := Greet(psk, keyOf(15))
	before := *end
	seen := map[Keys]int{}
	for round := range 3 {
		for seed := range 8 {
			answer, keys, errno := Answer(psk, keyOf(100+seed), greeting)
			if errno != api.OK {
				t.Fatalf("Answer = %d", errno)
			}
			got, errno := end.Finish(answer)
			if errno != api.OK || got != (Keys{Send: keys.Take, Take: keys.Send}) {
				t.Errorf("round %d, answer %d: Finish = %x, %d", round, seed, got, errno)
			}
			refusedFinish(t, end, answer[:47], api.ErrForm)
			refusedFinish(t, end, changed(answer, 5*seed), api.ErrOpen)
			seen[got]++
		}
	}
	if *end != before {
		t.Error("the talk is another one than it was")
	}
	if len(seen) != 8 {
		t.Errorf("%d keys of 8 answers", len(seen))
	}
}

// 13.2
func TestHash(t *testing.T) {
	for n := range 140 {
		whole := some(n, n)
		wanted := api.Key(sha256.Sum256([]byte(whole)))
		for cut := range n + 1 {
			if got := Hash(whole[:cut], whole[cut:]); got != wanted {
				t.Fatalf("Hash of %d and %d bytes = %x", cut, n-cut, got)
			}
		}
	}
	if Hash("ab", "c") == Hash("c", "ab") {
		t.Error("Hash doesn't mind which text is the first")
	}
	abc := Hash("a", "bc")
	if hex.EncodeToString(abc[:]) != "ba7816bf8f01cfea414140de5dae2223b00361a396177a9cb410ff61f20015ad" {
		t.Errorf("Hash of a and bc = %x", abc)
	}
}

// 13.3: the same keys, crosswise.
func TestSameKeys(t *testing.T) {
	for _, s := range manySecrets() {
		got := talk(t, s)
		if got.greeterKeys.Send != got.answererKeys.Take || got.greeterKeys.Take != got.answererKeys.Send {
			t.Errorf("%x: %x and %x", s, got.greeterKeys, got.answererKeys)
		}
		if got.greeterKeys.Send == got.greeterKeys.Take {
			t.Errorf("%x: one key for both ways", s)
		}
	}
}

// 13.3: with another shared secret nothing is opened, whichever bit is another one.
func TestAnotherSharedSecret(t *testing.T) {
	s := secrets{keyOf(16), keyOf(17), keyOf(18)}
	whole := talk(t, s)
	for bit := range 256 {
		other := s.psk
		other[bit/8] ^= 1 << (bit % 8)
		refusedAnswer(t, other, s.answerer, whole.greeting, api.ErrOpen)
		if bit%8 == bit/8%8 {
			end, _ := Greet(other, s.greeter)
			refusedFinish(t, end, whole.answer, api.ErrOpen)
		}
	}
	end, _ := Greet(s.psk, keyOf(19))
	refusedFinish(t, end, whole.answer, api.ErrOpen)
}

// 13.3: each secret counts for the keys.
func TestEachSecretCounts(t *testing.T) {
	s := secrets{keyOf(20), keyOf(21), keyOf(22)}
	seen := map[api.Key]secrets{}
	for _, each := range []secrets{s, {keyOf(23), s.greeter, s.answerer}, {s.psk, keyOf(23), s.answerer}, {s.psk, s.greeter, keyOf(23)}} {
		keys := talk(t, each).greeterKeys
		for _, key := range []api.Key{keys.Send, keys.Take} {
			if _, has := seen[key]; has {
				t.Errorf("%x: a key of other secrets", each)
			}
			seen[key] = each
		}
	}
}

// Rule 6: answers hang on arguments alone.
func TestAnswersHangOnArguments(t *testing.T) {
	s, other := secrets{keyOf(24), keyOf(25), keyOf(26)}, secrets{keyOf(27), keyOf(28), keyOf(29)}
	before := talk(t, s)
	talk(t, other)
	refusedAnswer(t, s.psk, s.answerer, some(48, 3), api.ErrOpen)
	if after := talk(t, s); after != before {
		t.Errorf("%x, then %x", before, after)
	}
}

// Rule 4: what is handed in is neither changed nor kept.
func TestHandedInIsNotKept(t *testing.T) {
	s := secrets{keyOf(30), keyOf(31), keyOf(32)}
	whole := talk(t, s)
	end, _ := Greet(s.psk, s.greeter)

	given := []byte(whole.greeting)
	answer, keys, errno := Answer(s.psk, s.answerer, unsafe.String(&given[0], len(given)))
	if errno != api.OK || string(given) != whole.greeting {
		t.Fatalf("Answer = %d, of %x", errno, given)
	}
	clear(given)
	if answer != whole.answer || keys != whole.answererKeys {
		t.Errorf("the answer goes with the greeting's bytes: %x, %x", answer, keys)
	}

	given = []byte(whole.answer)
	keys, errno = end.Finish(unsafe.String(&given[0], len(given)))
	if errno != api.OK || string(given) != whole.answer {
		t.Fatalf("Finish = %d, of %x", errno, given)
	}
	clear(given)
	if again, errno := end.Finish(whole.answer); errno != api.OK || again != keys || keys != whole.greeterKeys {
		t.Errorf("the keys go with the answer's bytes: %x, %x", keys, again)
	}
}

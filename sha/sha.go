// Package sha is layer 1: see shared/doc/01-sha.md.
package sha

import (
	"math/bits"

	"causey/api"
)

const (
	blockSize = 64 // bytes of a block
	markSize  = 1  // the byte that ends a text
	countSize = 8  // the bytes that tell a text's length
	mark      = 0x80

	maxPrimes = 100
	maxRooted = 1000 // the greatest number whose root is told
	rootBits  = 37   // no root of those numbers, 32 bits behind its point, has more
)

// constants are written out, as working the roots out again for each block would cost far more than the block itself; a test holds them against Root.
var constants = [64]uint32{
	0x428a2f98, 0x71374491, 0xb5c0fbcf, 0xe9b5dba5, 0x3956c25b, 0x59f111f1, 0x923f82a4, 0xab1c5ed5,
	0xd807aa98, 0x12835b01, 0x243185be, 0x550c7dc3, 0x72be5d74, 0x80deb1fe, 0x9bdc06a7, 0xc19bf174,
	0xe49b69c1, 0xefbe4786, 0x0fc19dc6, 0x240ca1cc, 0x2de92c6f, 0x4a7484aa, 0x5cb0a9dc, 0x76f988da,
	0x983e5152, 0xa831c66d, 0xb00327c8, 0xbf597fc7, 0xc6e00bf3, 0xd5a79147, 0x06ca6351, 0x14292967,
	0x27b70a85, 0x2e1b2138, 0x4d2c6dfc, 0x53380d13, 0x650a7354, 0x766a0abb, 0x81c2c92e, 0x92722c85,
	0xa2bfe8a1, 0xa81a664b, 0xc24b8b70, 0xc76c51a3, 0xd192e819, 0xd6990624, 0xf40e3585, 0x106aa070,
	0x19a4c116, 0x1e376c08, 0x2748774c, 0x34b0bcb5, 0x391c0cb3, 0x4ed8aa4a, 0x5b9cca4f, 0x682e6ff3,
	0x748f82ee, 0x78a5636f, 0x84c87814, 0x8cc70208, 0x90befffa, 0xa4506ceb, 0xbef9a3f7, 0xc67178f2,
}

// Primes answers the first n primes.
func Primes(n int) []int {
	if n < 0 || n > maxPrimes {
		return nil
	}
	primes := make([]int, 0, n)
	for candidate := 2; len(primes) < n; candidate++ {
		if !divided(candidate, primes) {
			primes = append(primes, candidate)
		}
	}
	return primes
}

func divided(n int, by []int) bool {
	for _, d := range by {
		if n%d == 0 {
			return true
		}
	}
	return false
}

// Root answers the first 32 bits behind the point of n's square root (power 2) or cube root (power 3).
func Root(n, power int) uint32 {
	if n < 0 || n > maxRooted || power != 2 && power != 3 {
		return 0
	}
	within := rootLimit(uint64(n), power)
	root := uint64(0)
	for bit := uint64(1) << (rootBits - 1); bit > 0; bit >>= 1 {
		if within(root | bit) {
			root |= bit
		}
	}
	return uint32(root)
}

// rootLimit tells of numbers of at most rootBits bits whether they are at most n's root, 32 bits behind its point.
// Powers have up to 111 bits, hence the two words; the lower word of what they must not be above is always 0.
func rootLimit(n uint64, power int) func(root uint64) bool {
	limit := n
	if power == 3 {
		limit <<= 32
	}
	return func(root uint64) bool {
		high, low := bits.Mul64(root, root)
		if power == 3 {
			carried, lowest := bits.Mul64(low, root)
			high, low = high*root+carried, lowest
		}
		return high < limit || high == limit && low == 0
	}
}

// Block answers eight words behind a block of s's first 64 bytes, or the words themselves if s has fewer.
func Block(h [8]uint32, s string) [8]uint32 {
	if len(s) < blockSize {
		return h
	}
	w := spread(s)
	v := h
	for i := range w {
		a, e := v[0], v[4]
		t := v[7] + mixed(e, 6, 11, 25) + (e&v[5] ^ ^e&v[6]) + constants[i] + w[i]
		u := mixed(a, 2, 13, 22) + (a&v[1] ^ a&v[2] ^ v[1]&v[2])
		copy(v[1:], v[:7])
		v[4] += t
		v[0] = t + u
	}
	for i := range h {
		h[i] += v[i]
	}
	return h
}

// spread makes a block's 64 words of its 64 bytes.
func spread(s string) [64]uint32 {
	var w [64]uint32
	for i := range 16 {
		w[i] = word(s[4*i : 4*i+4])
	}
	for i := 16; i < len(w); i++ {
		x, y := w[i-15], w[i-2]
		s0 := turned(x, 7) ^ turned(x, 18) ^ x>>3
		s1 := turned(y, 17) ^ turned(y, 19) ^ y>>10
		w[i] = w[i-16] + s0 + w[i-7] + s1
	}
	return w
}

func word(s string) uint32 {
	return uint32(s[0])<<24 | uint32(s[1])<<16 | uint32(s[2])<<8 | uint32(s[3])
}

func turned(x uint32, n int) uint32 {
	return bits.RotateLeft32(x, -n)
}

func mixed(x uint32, i, j, k int) uint32 {
	return turned(x, i) ^ turned(x, j) ^ turned(x, k)
}

// Fill fills a text up to whole blocks, its length at their end.
func Fill(s string) string {
	return s + filling(len(s))
}

// filling is what stands behind a text of that many bytes when it is filled up.
func filling(length int) string {
	used := (length + markSize + countSize) % blockSize
	zeros := (blockSize - used) % blockSize
	out := make([]byte, markSize+zeros+countSize)
	out[0] = mark
	count := uint64(length) * 8
	for i := range countSize {
		out[len(out)-1-i] = byte(count >> (8 * i))
	}
	return string(out)
}

// Sum answers a text's sum.
func Sum(s string) api.Key {
	h := [8]uint32{
		0x6a09e667, 0xbb67ae85, 0x3c6ef372, 0xa54ff53a, 0x510e527f, 0x9b05688c, 0x1f83d9ab, 0x5be0cd19,
	}
	// Only the rest behind the whole blocks is filled up, so that a long text isn't copied.
	whole := len(s) - len(s)%blockSize
	h = blocks(h, s[:whole])
	h = blocks(h, s[whole:]+filling(len(s)))
	var sum api.Key
	for i := range sum {
		sum[i] = byte(h[i/4] >> (24 - 8*(i%4)))
	}
	return sum
}

// blocks answers eight words behind all of s's whole blocks.
func blocks(h [8]uint32, s string) [8]uint32 {
	for ; len(s) >= blockSize; s = s[blockSize:] {
		h = Block(h, s)
	}
	return h
}

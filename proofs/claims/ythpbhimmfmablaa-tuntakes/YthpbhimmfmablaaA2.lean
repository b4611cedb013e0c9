/- SHA-256 as plain functions on lists of words. No program is run here. -/
import Derived.Test.YthpbhimmfmablaaA
namespace Go.Proofs.Ythpbhimmfmablaa
open Go.RowKit
def sig0 (x : UInt32) : UInt32 := rotr x 7 ^^^ rotr x 18 ^^^ shrw x 3
def sig1 (x : UInt32) : UInt32 := rotr x 17 ^^^ rotr x 19 ^^^ shrw x 10
theorem fold_sig0 (x : UInt32) : rotr x 7 ^^^ rotr x 18 ^^^ shrw x 3 = sig0 x := rfl
theorem fold_sig1 (x : UInt32) : rotr x 17 ^^^ rotr x 19 ^^^ shrw x 10 = sig1 x := rfl
/-- three turns, made one -/
def mix3 (x : UInt32) (i j k : Nat) : UInt32 := rotr x i ^^^ rotr x j ^^^ rotr x k
/-- the i-th word of a block's text -/
def sw (s : List UInt8) (i : Nat) : UInt32 := wordOf (s.getD (4 * i) 0) (s.getD (4 * i + 1) 0) (s.getD (4 * i + 2) 0) (s.getD (4 * i + 3) 0)
def nextW (l : List UInt32) (k : Nat) : UInt32 := l.getD (k - 16) 0 + sig0 (l.getD (k - 15) 0) + l.getD (k - 7) 0 + sig1 (l.getD (k - 2) 0)
def wstep (s : List UInt8) (l : List UInt32) (k : Nat) : List UInt32 := l ++ [if k < 16 then sw s k else nextW l k]
/-- the first k words of a block -/
def wl (s : List UInt8) : Nat → List UInt32
  | 0 => []
  | k + 1 => wstep s (wl s k) k
/-- the rounds' constants -/
def kk : List UInt32 := [0x428a2f98, 0x71374491, 0xb5c0fbcf, 0xe9b5dba5, 0x3956c25b, 0x59f111f1, 0x923f82a4, 0xab1c5ed5, 0xd807aa98, 0x12835b01, 0x243185be, 0x550c7dc3, 0x72be5d74, 0x80deb1fe, 0x9bdc06a7, 0xc19bf174, 0xe49b69c1, 0xefbe4786, 0x0fc19dc6, 0x240ca1cc, 0x2de92c6f, 0x4a7484aa, 0x5cb0a9dc, 0x76f988da, 0x983e5152, 0xa831c66d, 0xb00327c8, 0xbf597fc7, 0xc6e00bf3, 0xd5a79147, 0x06ca6351, 0x14292967, 0x27b70a85, 0x2e1b2138, 0x4d2c6dfc, 0x53380d13, 0x650a7354, 0x766a0abb, 0x81c2c92e, 0x92722c85, 0xa2bfe8a1, 0xa81a664b, 0xc24b8b70, 0xc76c51a3, 0xd192e819, 0xd6990624, 0xf40e3585, 0x106aa070, 0x19a4c116, 0x1e376c08, 0x2748774c, 0x34b0bcb5, 0x391c0cb3, 0x4ed8aa4a, 0x5b9cca4f, 0x682e6ff3, 0x748f82ee, 0x78a5636f, 0x84c87814, 0x8cc70208, 0x90befffa, 0xa4506ceb, 0xbef9a3f7, 0xc67178f2]
/-- eight words -/
structure W8 where
  a : UInt32
  b : UInt32
  c : UInt32
  d : UInt32
  e : UInt32
  f : UInt32
  g : UInt32
  h : UInt32
def tOf (v : W8) (k w : UInt32) : UInt32 := v.h + mix3 v.e 6 11 25 + (v.e &&& v.f ^^^ ~~~v.e &&& v.g) + k + w
def uOf (v : W8) : UInt32 := mix3 v.a 2 13 22 + (v.a &&& v.b ^^^ v.a &&& v.c ^^^ v.b &&& v.c)
def rnd (v : W8) (k w : UInt32) : W8 := ⟨tOf v k w + uOf v, v.a, v.b, v.c, v.d + tOf v k w, v.e, v.f, v.g⟩
def rounds (v : W8) (ws : List UInt32) : Nat → W8
  | 0 => v
  | k + 1 => rnd (rounds v ws k) (kk.getD k 0) (ws.getD k 0)
def addW (v x : W8) : W8 := ⟨v.a + x.a, v.b + x.b, v.c + x.c, v.d + x.d, v.e + x.e, v.f + x.f, v.g + x.g, v.h + x.h⟩
/-- eight words behind a block -/
def blk (v : W8) (s : List UInt8) : W8 := addW v (rounds v (wl s 64) 64)
def first8 : W8 := ⟨0x6a09e667, 0xbb67ae85, 0x3c6ef372, 0xa54ff53a, 0x510e527f, 0x9b05688c, 0x1f83d9ab, 0x5be0cd19⟩
def abcBlk : List UInt8 := [97, 98, 99, 128] ++ List.replicate 59 0 ++ [24]
theorem abc_blk : (blk first8 abcBlk).a = 0xba7816bf ∧ (blk first8 abcBlk).h = 0xf20015ad := by decide +kernel
end Go.Proofs.Ythpbhimmfmablaa

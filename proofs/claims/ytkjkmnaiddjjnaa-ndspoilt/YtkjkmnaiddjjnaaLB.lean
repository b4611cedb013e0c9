/- Questions and answers of neighbours as bytes: what is printed; what any bytes are parsed as. No program is run here. -/
import Derived.Test.YtkjkmnaiddjjnaaLA
import Derived.Test.YtkjkmnaiddjjnaaOB
namespace Go.Proofs.Ytkjkmnaiddjjnaa
open Go.RowKit
/-- a message's numbers ahead of its sum, those ahead of a station's address, a head's numbers ahead of its addresses -/
def startL (k : Nat) : List UInt8 := [UInt8.ofNat (k + 134), 0]
def markL (k : Nat) : List UInt8 := [UInt8.ofNat k, 1]
def sizesL (n : Nat) : List UInt8 := beTail n 2 ++ [58, 255]
/-- what is summed -/
def coverL (f t A B : List UInt8) : List UInt8 := f ++ t ++ beTail ((A ++ beTail 0 2) ++ B).length 4 ++ beTail 58 4 ++ ((A ++ beTail 0 2) ++ B)
/-- the two bytes of a message's sum -/
def sumB (f t A B : List UInt8) : List UInt8 := beTail (sum16 (coverL f t A B)) 2
def N10.stat (x : N10) : List UInt8 := if x.h then markL x.op.toNat ++ x.m else []
def N10.beh (x : N10) : List UInt8 := (x.g ++ x.a) ++ x.stat
def N10.msg (x : N10) : List UInt8 := (startL x.op.toNat ++ sumB x.f x.t (startL x.op.toNat) x.beh) ++ x.beh
/-- its bytes -/
def N10.bytes (x : N10) : List UInt8 := ((([96, 0, 0, 0] : List UInt8) ++ sizesL x.msg.length) ++ (x.f ++ x.t)) ++ x.msg
/-- can it be printed? -/
def N10.right (x : N10) : Bool := rightO x.op && (x.h || x.m == o6)
def print10 (x : N10) : List UInt8 × Int := if x.right then (x.bytes, 0) else ([], 3)
theorem sizesL_length (n : Nat) : (sizesL n).length = 4 := by unfold sizesL; simp [beTail_length]
theorem sumB_length (f t A B : List UInt8) : (sumB f t A B).length = 2 := by unfold sumB; exact beTail_length _ _
theorem N10.stat_length {x : N10} (h : x.Fit) : x.stat.length = if x.h then 8 else 0 := by
  unfold N10.stat
  split
  · simp [markL, h.m]
  · rfl
theorem N10.beh_length {x : N10} (h : x.Fit) : x.beh.length = if x.h then 28 else 20 := by
  unfold N10.beh
  rw [List.length_append, List.length_append, N10.stat_length h, h.g, h.a]
  split <;> rfl
theorem N10.msg_length {x : N10} (h : x.Fit) : x.msg.length = if x.h then 32 else 24 := by
  unfold N10.msg
  rw [List.length_append, List.length_append, N10.beh_length h, sumB_length]
  split <;> rfl
theorem N10.bytes_length {x : N10} (h : x.Fit) : x.bytes.length = if x.h then 72 else 64 := by
  unfold N10.bytes
  rw [List.length_append, List.length_append, List.length_append, List.length_append, N10.msg_length h, sizesL_length, h.f, h.t]
  split <;> rfl
/-- is a head right? -/
def headOk (s : ByteArray) : Bool := bAt s 0 == 96 && cut9 s 4 4 == sizesL (wd s 4)
def sizeOk (n : Nat) : Bool := n == 24 || n == 32
/-- what a message says -/
def msgOf (m : ByteArray) : N10 := ⟨((bAt m 0).toNat : Int) - 134, o16, o16, cut9 m 8 16, if m.size = 32 then cut9 m 26 6 else o6, decide (m.size = 32), cut9 m 4 4⟩
/-- are its numbers right? -/
def msgOk (m : ByteArray) : Bool := rightO (((bAt m 0).toNat : Int) - 134) && cut9 m 0 2 == startL ((bAt m 0).toNat - 134) && (m.size != 32 || cut9 m 24 2 == markL ((bAt m 0).toNat - 134))
/-- what a body says -/
def saysOf (s m : ByteArray) : N10 := { msgOf m with f := cut9 s 8 16, t := cut9 s 24 16 }
def sumOk (s m : ByteArray) : Bool := cut9 m 2 2 == sumB (cut9 s 8 16) (cut9 s 24 16) (cut9 m 0 2) (m.data.toList.drop 4)
/-- what Parse answers: an error (or 0), a question or an answer -/
def parse10 (s : ByteArray) : Int × N10 :=
  if s.size < 64 then (2, nz) else
  if headOk (s.extract 0 40) && sizeOk (wd s 4) then
    if s.size < 40 + wd s 4 then (2, nz) else
    if msgOk (s.extract 40 (40 + wd s 4)) then
      if sumOk s (s.extract 40 (40 + wd s 4)) then (0, saysOf s (s.extract 40 (40 + wd s 4))) else (4, nz)
    else (3, nz)
  else (3, nz)
theorem msgOf_fit (m : ByteArray) (h : m.size = 24 ∨ m.size = 32) : (msgOf m).Fit := by
  refine ⟨rfl, rfl, cut9_length m 8 16 (by omega), ?_, cut9_length m 4 4 (by omega)⟩
  show (if m.size = 32 then cut9 m 26 6 else o6).length = 6
  split
  · exact cut9_length m 26 6 (by omega)
  · rfl
theorem saysOf_fit (s m : ByteArray) (hs : 64 ≤ s.size) (h : m.size = 24 ∨ m.size = 32) : (saysOf s m).Fit :=
  ⟨cut9_length s 8 16 (by omega), cut9_length s 24 16 (by omega), (msgOf_fit m h).a, (msgOf_fit m h).m, (msgOf_fit m h).g⟩
theorem sizeOk_spec {n : Nat} (h : sizeOk n = true) : n = 24 ∨ n = 32 := by
  unfold sizeOk at h
  simpa using h
theorem parse10_fit (s : ByteArray) : (parse10 s).2.Fit := by
  unfold parse10
  split
  · exact nz_fit
  split
  · rename_i h0 h1
    have h2 := sizeOk_spec (by simp only [Bool.and_eq_true] at h1; exact h1.2)
    split
    · exact nz_fit
    split
    · split
      · exact saysOf_fit s _ (by omega) (by rw [ByteArray.size_extract]; omega)
      · exact nz_fit
    · exact nz_fit
  · exact nz_fit
end Go.Proofs.Ytkjkmnaiddjjnaa

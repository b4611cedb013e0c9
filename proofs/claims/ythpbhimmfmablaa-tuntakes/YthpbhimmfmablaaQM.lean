/- Texts filled up, as plain functions. No program is run here. -/
import Derived.Test.YthpbhimmfmablaaF
namespace Go.Proofs.Ythpbhimmfmablaa
open Go.RowKit
def strLen : Value → Nat | .string b => b.size | _ => 0
theorem len_list (s : ByteArray) : s.data.toList.length = s.size := by simp
/-- a text, filled up -/
def filled (s : ByteArray) : ByteArray := s ++ ⟨(fillL s.size).toArray⟩
theorem filled_size (s : ByteArray) : (filled s).size = s.size + fillLen s.size := by
  have e : (⟨(fillL s.size).toArray⟩ : ByteArray).size = (fillL s.size).length := rfl
  unfold filled
  rw [ByteArray.size_append, e, fillL_length]
theorem filled_list (s : ByteArray) : (filled s).data.toList = s.data.toList ++ fillL s.size := by
  unfold filled
  rw [ByteArray.data_append, Array.toList_append]
theorem beTail8_inj (c d : Nat) (hc : c < 65536) (hd : d < 65536) (h : beTail c 8 = beTail d 8) : c = d := by
  simp only [beTail, List.cons.injEq, and_true] at h
  obtain ⟨_, _, _, _, _, _, h1, h0⟩ := h
  have e1 := congrArg UInt8.toNat h1
  have e0 := congrArg UInt8.toNat h0
  rw [UInt8.toNat_ofNat', UInt8.toNat_ofNat'] at e1 e0
  simp only [Nat.pow_one, Nat.pow_zero, Nat.div_one] at e1 e0
  omega
theorem fillL_split (n : Nat) : ∃ z, fillL n = z ++ beTail (8 * n) 8 := ⟨_, rfl⟩
theorem filled_inj (s t : ByteArray) (hs : s.size ≤ 400) (ht : t.size ≤ 400) (h : filled s = filled t) : s = t := by
  have hl : s.data.toList ++ fillL s.size = t.data.toList ++ fillL t.size := by rw [← filled_list, ← filled_list, h]
  obtain ⟨z1, e1⟩ := fillL_split s.size
  obtain ⟨z2, e2⟩ := fillL_split t.size
  rw [e1, e2, ← List.append_assoc, ← List.append_assoc] at hl
  have h8 := (List.append_inj' hl (by rw [beTail_length, beTail_length])).2
  have hn := beTail8_inj _ _ (by omega) (by omega) h8
  have hn' : s.size = t.size := by omega
  have hl2 : s.data.toList ++ fillL s.size = t.data.toList ++ fillL t.size := by rw [← filled_list, ← filled_list, h]
  have hst := (List.append_inj hl2 (by rw [len_list, len_list, hn'])).1
  exact ByteArray.ext (Array.toList_inj.1 hst)
theorem same_lists (a b : ByteArray) : (a.toList == b.toList) = decide (a = b) := by
  rw [Bool.eq_iff_iff, beq_iff_eq, decide_eq_true_iff, ByteArray.toList_eq, ByteArray.toList_eq]
  exact ⟨fun h => ByteArray.ext (Array.toList_inj.1 h), fun h => by rw [h]⟩
theorem filled_head (s : ByteArray) : (filled s).extract 0 s.size = s := by
  apply ByteArray.ext
  apply Array.toList_inj.1
  rw [ByteArray.data_extract, Array.toList_extract, List.extract_eq_take_drop, filled_list, List.drop_zero, Nat.sub_zero, ← len_list s, List.take_left]
end Go.Proofs.Ythpbhimmfmablaa

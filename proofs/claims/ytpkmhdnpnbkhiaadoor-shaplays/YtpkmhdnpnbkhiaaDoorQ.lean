/- sha.Fill and the walk of law ShaFills. -/
import Derived.Test.YtpkmhdnpnbkhiaaDoorK
namespace Go.Proofs.YtpkmhdnpnbkhiaaDoor
open Go.RowKit
/-- a text, filled up -/
def filled (s : ByteArray) : ByteArray := s ++ ⟨(fillL s.size).toArray⟩
theorem filled_size (s : ByteArray) : (filled s).size = s.size + fillLen s.size := by
  have e : (⟨(fillL s.size).toArray⟩ : ByteArray).size = (fillL s.size).length := rfl
  unfold filled
  rw [ByteArray.size_append, e, fillL_length]
theorem filled_list (s : ByteArray) : (filled s).data.toList = s.data.toList ++ fillL s.size := by
  unfold filled
  rw [ByteArray.data_append, Array.toList_append]
theorem beTail8_inj (c d : Nat) (hc : c < 65536) (hd : d < 65536) (h : beTail c 8 = beTail d 8) : c = d := by
  simp only [beTail, List.cons.injEq, and_true] at h
  obtain ⟨_, _, _, _, _, _, h1, h0⟩ := h
  have e1 := congrArg UInt8.toNat h1
  have e0 := congrArg UInt8.toNat h0
  rw [UInt8.toNat_ofNat', UInt8.toNat_ofNat'] at e1 e0
  simp only [Nat.pow_one, Nat.pow_zero, Nat.div_one] at e1 e0
  omega
theorem fillL_split (n : Nat) : ∃ z, fillL n = z ++ beTail (8 * n) 8 := ⟨_, rfl⟩
theorem filled_inj (s t : ByteArray) (hs : s.size ≤ 400) (ht : t.size ≤ 400) (h : filled s = filled t) : s = t := by
  have hl : s.data.toList ++ fillL s.size = t.data.toList ++ fillL t.size := by rw [← filled_list, ← filled_list, h]
  obtain ⟨z1, e1⟩ := fillL_split s.size
  obtain ⟨z2, e2⟩ := fillL_split t.size
  rw [e1, e2, ← List.append_assoc, ← List.append_assoc] at hl
  have h8 := (List.append_inj' hl (by rw [beTail_length, beTail_length])).2
  have hn := beTail8_inj _ _ (by omega) (by omega) h8
  have hn' : s.size = t.size := by omega
  have hl2 : s.data.toList ++ fillL s.size = t.data.toList ++ fillL t.size := by rw [← filled_list, ← filled_list, h]
  have hst := (List.append_inj hl2 (by rw [len_list, len_list, hn'])).1
  exact ByteArray.ext (Array.toList_inj.1 hst)
theorem same_lists (a b : ByteArray) : (a.toList == b.toList) = decide (a = b) := by
  rw [Bool.eq_iff_iff, beq_iff_eq, decide_eq_true_iff, ByteArray.toList_eq, ByteArray.toList_eq]
  exact ⟨fun h => ByteArray.ext (Array.toList_inj.1 h), fun h => by rw [h]⟩
theorem filled_head (s : ByteArray) : (filled s).extract 0 s.size = s := by
  apply ByteArray.ext
  apply Array.toList_inj.1
  rw [ByteArray.data_extract, Array.toList_extract, List.extract_eq_take_drop, filled_list, List.drop_zero, Nat.sub_zero, ← len_list s, List.take_left]
set_option maxHeartbeats 400000 in
theorem fill_any (s : ByteArray) (hm : s.size ≤ 900000) (w : World) :
    Calls Tryd.prog 11 #[.string s] w fun e w' => e = .returned (.string (filled s)) ∧ Below w.heap.size w w' := by
  obtain ⟨F, hF⟩ : ∃ F : ByteArray, F = ⟨(fillL s.size).toArray⟩ := ⟨_, rfl⟩
  have hfl := filling_any s.size (by omega)
  rw [← hF] at hfl
  have hFs : F.size ≤ 100 := by
    have e : F.size = (fillL s.size).length := by rw [hF]; rfl
    have := fillLen_lt s.size
    rw [e, fillL_length]; omega
  have HFL := Lib.hid hfl
  have HF := Lib.hid hF
  clear hfl hF
  have hcat : ¬ (9223372036854775807 < s.size + F.size) := by omega
  go_enter Tryd.func11, Tryd.ntmps11
  go_wp2_with (go_at_call 22; refine (HFL.out _).mono ?_; rintro e w1 ⟨rfl, hb1⟩)
  go_ret
  exact ⟨by unfold filled; rw [← HF.out]; rfl, hb1⟩
set_option maxHeartbeats 400000 in
theorem fills_any (s t : ByteArray) (w : World) (hK : HasK w) :
    Calls Tryd.prog 3 #[.string s, .string t] w fun e w' => e = .returned (.bool true) ∧ Below w.heap.size w w' := by
  have HK := Lib.hid hK
  clear hK
  have E : HasK w ∧ Below w.heap.size w w := ⟨HK.out, Below.refl _ _⟩
  by_cases h1 : 400 < s.size
  · go_enter Tryd.func3, Tryd.ntmps3
    go_wp2_with (go_at_call 10; refine (awake_any _ E.1).mono ?_; rintro e wq ⟨rfl, hbq⟩; replace E : HasK wq ∧ Below w.heap.size w wq := ⟨E.1.below E.1.lt hbq, E.2.trans (hbq.mono E.2.size)⟩)
    go_ret
    exact ⟨rfl, E.2⟩
  by_cases h2 : 400 < t.size
  · go_enter Tryd.func3, Tryd.ntmps3
    go_wp2_with (go_at_call 10; refine (awake_any _ E.1).mono ?_; rintro e wq ⟨rfl, hbq⟩; replace E : HasK wq ∧ Below w.heap.size w wq := ⟨E.1.below E.1.lt hbq, E.2.trans (hbq.mono E.2.size)⟩)
    go_ret
    exact ⟨rfl, E.2⟩
  obtain ⟨A, hA⟩ : ∃ A, A = filled s := ⟨_, rfl⟩
  obtain ⟨B, hB⟩ : ∃ B, B = filled t := ⟨_, rfl⟩
  have ca := fill_any s (by omega)
  have cb := fill_any t (by omega)
  rw [← hA] at ca
  rw [← hB] at cb
  have za : A.size = s.size + fillLen s.size := by rw [hA, filled_size]
  have CA := Lib.hid ca
  have CB := Lib.hid cb
  have HA := Lib.hid hA
  have HB := Lib.hid hB
  have l1 := fillLen_ge s.size
  have l2 := fillLen_lt s.size
  have l3 := fill_mod s.size
  have b1 : s.size + 9 ≤ A.size := by omega
  have b2 : A.size < s.size + 73 := by omega
  have b3 : A.size % 64 = 0 := by omega
  have hx : ((A.extract 0 s.size).toList == s.toList) = true := by rw [same_lists, hA, filled_head]; simp
  have hfin : ((A.toList == B.toList) == (s.toList == t.toList)) = true := by
    rw [same_lists, same_lists, hA, hB]
    by_cases he : s = t
    · subst he; simp
    · have hne : filled s ≠ filled t := fun h => he (filled_inj s t (by omega) (by omega) h)
      simp [he, hne]
  have HFIN := Lib.hid hfin
  clear ca cb hA hB za l1 l2 l3 hfin
  go_enter Tryd.func3, Tryd.ntmps3
  go_wp2_with (first
    | (go_at_call 10; refine (awake_any _ E.1).mono ?_; rintro e wq ⟨rfl, hbq⟩; replace E : HasK wq ∧ Below w.heap.size w wq := ⟨E.1.below E.1.lt hbq, E.2.trans (hbq.mono E.2.size)⟩)
    | (go_at_call_of 11 (Value.string s); refine (CA.out _).mono ?_; rintro e wq ⟨rfl, hbq⟩; replace E : HasK wq ∧ Below w.heap.size w wq := ⟨E.1.below E.1.lt hbq, E.2.trans (hbq.mono E.2.size)⟩)
    | (go_at_call_of 11 (Value.string t); refine (CB.out _).mono ?_; rintro e wq ⟨rfl, hbq⟩; replace E : HasK wq ∧ Below w.heap.size w wq := ⟨E.1.below E.1.lt hbq, E.2.trans (hbq.mono E.2.size)⟩))
  go_ret
  exact ⟨by rw [← HFIN.out]; rfl, E.2⟩
end Go.Proofs.YtpkmhdnpnbkhiaaDoor

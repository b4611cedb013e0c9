/- The document's Bytes, Dec, Sum16: walked. -/
import Derived.Test.YtbeeebnocliaiaaDoorNC
namespace Go.Proofs.YtbeeebnocliaiaaDoor
open Go.RowKit
/-- what a text of one byte made out of a slice is -/
theorem conv_one (c : UInt8) (W : World) : (convert 51 9 (.slice (some ⟨W.heap.size, 0, none⟩) 1 1)).run Tryd.prog (W.alloc (.cells #[B8 c] 5)) = .ok (S9 [c]) (W.alloc (.cells #[B8 c] 5)) :=
  conv_bytes (l := [c]) (Has.fresh W 5 #[B8 c]) 1 1 rfl
theorem cat_str1 (c : UInt8) (t : List UInt8) : (Value.string ((⟨#[c]⟩ : ByteArray) ++ ⟨t.toArray⟩)) = S9 (c :: t) := congrArg Value.string (cat_str [c] t)
set_option maxRecDepth 20000 in
set_option maxHeartbeats 1000000 in
theorem bytes_any (n z : Nat) (hz : z ≤ 8) (hn : n ≤ 9223372036854775807) (w : World) :
    Calls Tryd.prog 15 #[.int .i64 (n : Int), .int .i64 (z : Int)] w fun e w' => e = .returned (S9 (beTail n z)) ∧ Below w.heap.size w w' := by
  have hlen := beTail_length n
  have hst : ∀ k, beTail n (k + 1) = UInt8.ofNat (n / 256 ^ k) :: beTail n k := fun k => rfl
  have hz0 : beTail n 0 = [] := rfl
  generalize beTail n = R at hlen hst hz0 ⊢
  have HS := Lib.hid hst
  have HL := Lib.hid hlen
  have HZ := Lib.hid hz0
  clear hlen hst hz0
  go_enter Tryd.func15, Tryd.ntmps15
  go_wp2
  go_loopw [0, 5, 6] (fun nv sv iv wr => ∃ k : Nat, k ≤ z ∧ nv = .int .i64 ((n / 256 ^ k : Nat) : Int) ∧ sv = S9 (R k) ∧ iv = .int .i64 (k : Int) ∧ Below w.heap.size w wr) (fun _ _ iv _ => z - (intOf iv).toNat)
  case atStart => exact ⟨0, by omega, by rw [Nat.pow_zero, Nat.div_one], by rw [HZ.out], rfl, Below.refl _ _⟩
  case round =>
    obtain ⟨k, hk, rfl, rfl, rfl, hb⟩ := hrel
    by_cases hlt : k < z
    · have t1 : decide ((k : Int) < (z : Int)) = true := by simp; omega
      have hd : n / 256 ^ k / 256 = n / 256 ^ (k + 1) := by rw [Nat.div_div_eq_div_mul, Nat.pow_succ]
      have hq : n / 256 ^ k ≤ n := Nat.div_le_self _ _
      have hst := HS.out k
      have hlk := HL.out k
      obtain ⟨q, hqq⟩ : ∃ q, n / 256 ^ k = q := ⟨_, rfl⟩
      rw [hqq] at hd hq hst
      have HD := Lib.hid hd
      rw [hqq]
      generalize R k = t at hst hlk
      have e8 : ((q : Int) % 256) = ((UInt8.ofNat q).toNat : Int) := by rw [UInt8.toNat_ofNat']; omega
      have hcv : ∀ W : World, (convert 51 9 (.slice (some ⟨W.heap.size, 0, none⟩) 1 1)).run Tryd.prog (W.alloc (.cells #[.int .u8 ((q : Int) % 256)] 5)) = .ok (S9 [UInt8.ofNat q]) (W.alloc (.cells #[.int .u8 ((q : Int) % 256)] 5)) := fun W => by rw [e8]; exact conv_one _ W
      clear e8
      have hcat : ¬ (9223372036854775807 < 1 + t.length) := by omega
      generalize UInt8.ofNat q = c at hcv hst
      have HST := Lib.hid hst
      clear hst hd hqq
      go_wp2
      refine ⟨⟨k + 1, by omega, ?_, ?_, by go_num, hb.alloc hb.size _⟩, by simp [intOf]; omega⟩
      · rw [← HD.out]; congr 1
      · rw [HST.out, cat_str1]
    · have hk2 : k = z := by omega
      subst hk2
      go_wp2
      go_ret
      exact ⟨rfl, hb⟩
def strLen0 (v : Value) : Nat := match v with
  | .string a => a.size
  | _ => 0
/-- the k lowest decimal digits of a number -/
def digs (n : Nat) : Nat → List UInt8
  | 0 => []
  | k + 1 => UInt8.ofNat (48 + n / 10 ^ k % 10) :: digs n k
theorem digs_length (n k : Nat) : (digs n k).length = k := by
  induction k with
  | zero => rfl
  | succ k ih => simp [digs, ih]
theorem digs_dec3 (n k : Nat) (hn : n < 1000) (hk : 1 ≤ k) (h0 : n / 10 ^ k = 0) (h1 : k = 1 ∨ 0 < n / 10 ^ (k - 1)) : digs n k = dec3 n := by
  have h3 : k ≤ 3 := by
    rcases Nat.lt_or_ge 3 k with h | h
    · exfalso
      rcases h1 with h1 | h1
      · omega
      · have h4 : 10 ^ 3 ≤ 10 ^ (k - 1) := Nat.pow_le_pow_right (by omega) (by omega)
        have := Nat.div_eq_of_lt (Nat.lt_of_lt_of_le hn h4)
        omega
    · exact h
  have hc : k = 1 ∨ k = 2 ∨ k = 3 := by omega
  unfold dec3
  rcases hc with rfl | rfl | rfl
  · have hlt : n < 10 := by
      have e : 10 ^ 1 = 10 := rfl
      rw [e] at h0; omega
    rw [if_pos hlt]
    show [UInt8.ofNat (48 + n / 10 ^ 0 % 10)] = _
    rw [Nat.pow_zero, Nat.div_one, Nat.mod_eq_of_lt hlt]
  · have e : 10 ^ 2 = 100 := rfl
    have e1 : 10 ^ (2 - 1) = 10 := rfl
    rw [e] at h0
    rw [e1] at h1
    have h10 : ¬ n < 10 := by omega
    have h100 : n < 100 := by omega
    rw [if_neg h10, if_pos h100]
    show [UInt8.ofNat (48 + n / 10 ^ 1 % 10), UInt8.ofNat (48 + n / 10 ^ 0 % 10)] = _
    rw [Nat.pow_zero, Nat.pow_one, Nat.div_one, Nat.mod_eq_of_lt (show n / 10 < 10 by omega)]
  · have e1 : 10 ^ (3 - 1) = 100 := rfl
    rw [e1] at h1
    have h10 : ¬ n < 10 := by omega
    have h100 : ¬ n < 100 := by omega
    rw [if_neg h10, if_neg h100]
    show [UInt8.ofNat (48 + n / 10 ^ 2 % 10), UInt8.ofNat (48 + n / 10 ^ 1 % 10), UInt8.ofNat (48 + n / 10 ^ 0 % 10)] = _
    have e2 : n / 10 ^ 2 % 10 = n / 10 / 10 := by
      have : 10 ^ 2 = 100 := rfl
      rw [this]; omega
    rw [e2, Nat.pow_zero, Nat.pow_one, Nat.div_one]
set_option maxRecDepth 20000 in
set_option maxHeartbeats 1000000 in
theorem dec_any (n : Nat) (hn : n < 1000) (w : World) :
    Calls Tryd.prog 30 #[.int .i64 (n : Int)] w fun e w' => e = .returned (S9 (dec3 n)) ∧ Below w.heap.size w w' := by
  have hend := digs_dec3 n
  have hlen := digs_length n
  have hst : ∀ k, digs n (k + 1) = UInt8.ofNat (48 + n / 10 ^ k % 10) :: digs n k := fun k => rfl
  have hz0 : digs n 0 = [] := rfl
  generalize digs n = R at hlen hst hz0 hend
  generalize dec3 n = D at hend ⊢
  have HS := Lib.hid hst
  have HL := Lib.hid hlen
  have HZ := Lib.hid hz0
  have HE := Lib.hid hend
  clear hlen hst hz0 hend
  go_enter Tryd.func30, Tryd.ntmps30
  go_wp2
  go_loopw [0, 3] (fun nv sv wr => ∃ k : Nat, nv = .int .i64 ((n / 10 ^ k : Nat) : Int) ∧ sv = S9 (R k) ∧ Hid (k ≤ 1 ∨ 0 < n / 10 ^ (k - 1)) ∧ Below w.heap.size w wr) (fun _ sv _ => 4 - strLen0 sv)
  case atStart => exact ⟨0, by rw [Nat.pow_zero, Nat.div_one], by rw [HZ.out], Lib.hid (Or.inl (by omega)), Below.refl _ _⟩
  case round =>
    obtain ⟨k, rfl, rfl, hk, hb⟩ := hrel
    have hsmall : 0 < n / 10 ^ k → k ≤ 2 := fun h => by
      rcases Nat.lt_or_ge 2 k with h3 | h3
      · exfalso
        have h4 : 10 ^ 3 ≤ 10 ^ k := Nat.pow_le_pow_right (by omega) (by omega)
        have := Nat.div_eq_of_lt (Nat.lt_of_lt_of_le hn h4)
        omega
      · exact h3
    by_cases hp : 0 < n / 10 ^ k
    · have hk3 : k ≤ 2 := hsmall hp
      have hst := HS.out k
      have hlk := HL.out k
      have hd : n / 10 ^ k / 10 = n / 10 ^ (k + 1) := by rw [Nat.div_div_eq_div_mul, Nat.pow_succ]
      have hnext : k + 1 ≤ 1 ∨ 0 < n / 10 ^ (k + 1 - 1) := Or.inr (by rw [Nat.add_sub_cancel]; exact hp)
      have HN := Lib.hid hnext
      clear hnext hsmall hk
      have hql : n / 10 ^ k ≤ n := Nat.div_le_self _ _
      generalize n / 10 ^ k = q at hp hd hst hql ⊢
      have e8 : (48 + (q : Int) % 10) = ((UInt8.ofNat (48 + q % 10)).toNat : Int) := by rw [UInt8.toNat_ofNat']; omega
      have hcv : ∀ W : World, (convert 51 9 (.slice (some ⟨W.heap.size, 0, none⟩) 1 1)).run Tryd.prog (W.alloc (.cells #[.int .u8 (48 + (q : Int) % 10)] 5)) = .ok (S9 [UInt8.ofNat (48 + q % 10)]) (W.alloc (.cells #[.int .u8 (48 + (q : Int) % 10)] 5)) := fun W => by rw [e8]; exact conv_one _ W
      clear e8
      generalize UInt8.ofNat (48 + q % 10) = c at hcv hst
      have hcat : ¬ (9223372036854775807 < 1 + (R k).length) := by omega
      generalize R k = t at hst hlk hcat ⊢
      have HST := Lib.hid hst
      have HD := Lib.hid hd
      clear hst hd
      go_wp2
      refine ⟨⟨k + 1, ?_, ?_, HN.out, hb.alloc hb.size _⟩, ?_⟩
      · rw [← HD.out]; congr 1
      · rw [HST.out, cat_str1]
      · rw [cat_str1]
        show 4 - (c :: t).length < 4 - t.length
        rw [List.length_cons]
        omega
    · by_cases hk0 : k = 0
      · subst hk0
        have hn0 : n = 0 := by rw [Nat.pow_zero, Nat.div_one] at hp; omega
        subst hn0
        have hst := HS.out 0
        have hz := HZ.out
        have hd : (0 : Nat) / 10 ^ (0 + 1) = 0 := rfl
        have he : (48 + 0 / 10 ^ 0 % 10) = 48 := rfl
        rw [he] at hst
        rw [hz] at hst ⊢
        have hcv : ∀ W : World, (convert 51 9 (.slice (some ⟨W.heap.size, 0, none⟩) 1 1)).run Tryd.prog (W.alloc (.cells #[.int .u8 48] 5)) = .ok (S9 [UInt8.ofNat 48]) (W.alloc (.cells #[.int .u8 48] 5)) := fun W => conv_one (UInt8.ofNat 48) W
        have HST := Lib.hid hst
        have h00 : ((0 / 10 ^ 0 : Nat) : Int) = 0 := rfl
        rw [h00]
        clear hst hz hd he hk hsmall hp
        go_wp2
        refine ⟨⟨1, rfl, ?_, Lib.hid (Or.inl (by omega)), hb.alloc hb.size _⟩, ?_⟩
        · rw [HST.out]; exact cat_str1 (UInt8.ofNat 48) []
        · show 4 - 1 < 4 - 0
          omega
      · have hq0 : n / 10 ^ k = 0 := Nat.eq_zero_of_le_zero (Nat.not_lt.1 hp)
        have hR := HE.out k hn (by omega) hq0 (by rcases hk.out with h | h; exact Or.inl (by omega); exact Or.inr h)
        have hne : (R k).isEmpty = false := by
          have := HL.out k
          cases hR2 : R k with
          | nil => rw [hR2] at this; exact absurd this.symm hk0
          | cons a b => rfl
        have HR := Lib.hid hR
        rw [hq0, show ((0 : Nat) : Int) = 0 from rfl]
        generalize R k = t at hne HR
        clear hR hk hsmall hp hk0 hq0
        go_wp2
        go_ret
        exact ⟨by rw [HR.out]; rfl, hb⟩
end Go.Proofs.YtbeeebnocliaiaaDoor

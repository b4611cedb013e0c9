/- Numbers there and back: oct.Four, the document's Number and Bytes, walked. (Where NB, NC, ND are in the seat, their own serve.) -/
import Derived.Test.YthpbhimmfmablaaNA
import Derived.Test.YthpbhimmfmablaaVJ
namespace Go.Proofs.Ythpbhimmfmablaa
open Go.RowKit
theorem num_two (n : Nat) (h : n < 65536) : numP (beTail n 2) 2 = n := by
  show (0 * 256 + (UInt8.ofNat (n / 256 ^ 1)).toNat) * 256 + (UInt8.ofNat (n / 256 ^ 0)).toNat = n
  rw [UInt8.toNat_ofNat', UInt8.toNat_ofNat', Nat.pow_one, Nat.pow_zero, Nat.div_one]
  omega
theorem num_four (n : Nat) (h : n < 4294967296) : numP (beTail n 4) 4 = n := by
  show (((0 * 256 + (UInt8.ofNat (n / 256 ^ 3)).toNat) * 256 + (UInt8.ofNat (n / 256 ^ 2)).toNat) * 256 + (UInt8.ofNat (n / 256 ^ 1)).toNat) * 256 + (UInt8.ofNat (n / 256 ^ 0)).toNat = n
  rw [UInt8.toNat_ofNat', UInt8.toNat_ofNat', UInt8.toNat_ofNat', UInt8.toNat_ofNat', Nat.pow_one, Nat.pow_zero, Nat.div_one]
  have e3 : n / 256 ^ 3 = n / 16777216 := rfl
  have e2 : n / 256 ^ 2 = n / 65536 := rfl
  rw [e3, e2]
  omega
theorem list2 {l : List UInt8} (h : l.length = 2) : ∃ a b, l = [a, b] := by
  match l, h with
  | [a, b], _ => exact ⟨a, b, rfl⟩
theorem list4 {l : List UInt8} (h : l.length = 4) : ∃ a b c d, l = [a, b, c, d] := by
  match l, h with
  | [a, b, c, d], _ => exact ⟨a, b, c, d, rfl⟩
theorem tail_two {l : List UInt8} (h : l.length = 2) : beTail (numP l 2) 2 = l := by
  obtain ⟨a, b, rfl⟩ := list2 h
  have ha := a.toNat_lt
  have hb := b.toNat_lt
  show [UInt8.ofNat (((0 * 256 + a.toNat) * 256 + b.toNat) / 256 ^ 1), UInt8.ofNat (((0 * 256 + a.toNat) * 256 + b.toNat) / 256 ^ 0)] = [a, b]
  have e1 : UInt8.ofNat (((0 * 256 + a.toNat) * 256 + b.toNat) / 256 ^ 1) = a := by
    apply UInt8.toNat_inj.1; rw [UInt8.toNat_ofNat', Nat.pow_one]; omega
  have e0 : UInt8.ofNat (((0 * 256 + a.toNat) * 256 + b.toNat) / 256 ^ 0) = b := by
    apply UInt8.toNat_inj.1; rw [UInt8.toNat_ofNat', Nat.pow_zero, Nat.div_one]; omega
  rw [e1, e0]
theorem tail_four {l : List UInt8} (h : l.length = 4) : beTail (numP l 4) 4 = l := by
  obtain ⟨a, b, c, d, rfl⟩ := list4 h
  have ha := a.toNat_lt
  have hb := b.toNat_lt
  have hc := c.toNat_lt
  have hd := d.toNat_lt
  obtain ⟨n, hn⟩ : ∃ n, (((0 * 256 + a.toNat) * 256 + b.toNat) * 256 + c.toNat) * 256 + d.toNat = n := ⟨_, rfl⟩
  show [UInt8.ofNat (((((0 * 256 + a.toNat) * 256 + b.toNat) * 256 + c.toNat) * 256 + d.toNat) / 256 ^ 3), UInt8.ofNat (((((0 * 256 + a.toNat) * 256 + b.toNat) * 256 + c.toNat) * 256 + d.toNat) / 256 ^ 2), UInt8.ofNat (((((0 * 256 + a.toNat) * 256 + b.toNat) * 256 + c.toNat) * 256 + d.toNat) / 256 ^ 1), UInt8.ofNat (((((0 * 256 + a.toNat) * 256 + b.toNat) * 256 + c.toNat) * 256 + d.toNat) / 256 ^ 0)] = [a, b, c, d]
  rw [hn]
  have q3 : n / 256 ^ 3 = n / 16777216 := rfl
  have q2 : n / 256 ^ 2 = n / 65536 := rfl
  have e3 : UInt8.ofNat (n / 256 ^ 3) = a := by
    apply UInt8.toNat_inj.1; rw [UInt8.toNat_ofNat', q3]; omega
  have e2 : UInt8.ofNat (n / 256 ^ 2) = b := by
    apply UInt8.toNat_inj.1; rw [UInt8.toNat_ofNat', q2]; omega
  have e1 : UInt8.ofNat (n / 256 ^ 1) = c := by
    apply UInt8.toNat_inj.1; rw [UInt8.toNat_ofNat', Nat.pow_one]; omega
  have e0 : UInt8.ofNat (n / 256 ^ 0) = d := by
    apply UInt8.toNat_inj.1; rw [UInt8.toNat_ofNat', Nat.pow_zero, Nat.div_one]; omega
  rw [e3, e2, e1, e0]
theorem fourN (n : Nat) (h : n < 4294967296) (w : World) : Calls Try.prog 30 #[.int .i64 (n : Int)] w fun e w' => e = .returned (.string ⟨(beTail n 4).toArray⟩) ∧ Below w.heap.size w w' := by
  have hc := fun W => number_any (n : Int) 4 (by omega) (by omega) (by omega) (by omega) W
  have e : numL (n : Int) 4 = beTail n 4 := by
    unfold numL
    rw [if_pos ⟨by omega, by show (n : Int) < 4294967296; omega⟩, Int.toNat_natCast]
  rw [e] at hc
  have HC := Lib.hid hc
  clear hc
  go_enter Try.func30, Try.ntmps30
  go_wp2_with (go_at_call 37; refine (HC.out _).mono ?_; rintro e w1 ⟨rfl, hb⟩)
  go_ret
  exact ⟨rfl, hb⟩
set_option maxRecDepth 20000 in
set_option maxHeartbeats 1000000 in
theorem refNumber_any (s : ByteArray) (hs : s.size ≤ 7) (w : World) :
    Calls Try.prog 27 #[.string s] w fun e w' => e = .returned (.int .i64 (numP s.data.toList s.size : Int)) ∧ w' = w := by
  have hlt := numP_lt s.data.toList
  have hst : ∀ k, numP s.data.toList (k + 1) = numP s.data.toList k * 256 + (bAt s k).toNat := fun k => rfl
  have hz : numP s.data.toList 0 = 0 := rfl
  generalize numP s.data.toList = P at hlt hst hz ⊢
  have HL := Lib.hid hlt
  have HS := Lib.hid hst
  have HZ := Lib.hid hz
  clear hlt hst hz
  go_enter Try.func27, Try.ntmps27
  go_wp2
  go_loop [3, 4] (fun c i => ∃ k : Nat, k ≤ s.size ∧ c = .int .i64 (P k : Int) ∧ i = .int .i64 (k : Int)) (fun _ i => s.size - (intOf i).toNat)
  case atStart => exact ⟨0, by omega, by rw [HZ.out]; rfl, rfl⟩
  case round =>
    obtain ⟨k, hk, rfl, rfl⟩ := hrel
    have hP := HL.out k
    by_cases hlt : k < s.size
    · have t1 : decide ((k : Int) < (s.size : Int)) = true := by simp; omega
      have h1 : (k : Int) < (s.size : Int) := by omega
      have hp5 : 256 ^ k ≤ 256 ^ 6 := Nat.pow_le_pow_right (by omega) (by omega)
      have hs := HS.out k
      have hb := UInt8.toNat_lt (bAt s k)
      generalize 256 ^ k = q at hP hp5
      go_wp2
      refine ⟨⟨k + 1, by omega, ?_, by go_num⟩, by simp [intOf]; omega⟩
      have hx : wrap64 (((bAt s k).toNat : Nat) : Int) = ((bAt s k).toNat : Int) := IntWalk.wrap64_in _ (by omega)
      rw [bAt_eq s k hlt, hx, hs, IntWalk.wrap64_in _ (by omega)]
      congr 1
      omega
    · have hk2 : k = s.size := by omega
      subst hk2
      clear hP hlt
      go_wp2
      go_ret
      exact ⟨rfl, rfl⟩
/-- what a text of one byte made out of a slice is -/
theorem conv_one (c : UInt8) (W : World) : (convert 60 9 (.slice (some ⟨W.heap.size, 0, none⟩) 1 1)).run Try.prog (W.alloc (.cells #[B8 c] 5)) = .ok (.string ⟨[c].toArray⟩) (W.alloc (.cells #[B8 c] 5)) :=
  conv_bytes (l := [c]) (Has.fresh W 5 #[B8 c]) 1 1 rfl
theorem cat_str1 (c : UInt8) (t : List UInt8) : (Value.string ((⟨#[c]⟩ : ByteArray) ++ ⟨t.toArray⟩)) = .string ⟨(c :: t).toArray⟩ := congrArg Value.string (cat_str [c] t)
set_option maxRecDepth 20000 in
set_option maxHeartbeats 1000000 in
theorem refBytes_any (n z : Nat) (hz : z ≤ 8) (hn : n ≤ 9223372036854775807) (w : World) :
    Calls Try.prog 29 #[.int .i64 (n : Int), .int .i64 (z : Int)] w fun e w' => e = .returned (.string ⟨(beTail n z).toArray⟩) ∧ Below w.heap.size w w' := by
  have hlen := beTail_length n
  have hst : ∀ k, beTail n (k + 1) = UInt8.ofNat (n / 256 ^ k) :: beTail n k := fun k => rfl
  have hz0 : beTail n 0 = [] := rfl
  generalize beTail n = R at hlen hst hz0 ⊢
  have HS := Lib.hid hst
  have HL := Lib.hid hlen
  have HZ := Lib.hid hz0
  clear hlen hst hz0
  go_enter Try.func29, Try.ntmps29
  go_wp2
  go_loopw [0, 5, 6] (fun nv sv iv wr => ∃ k : Nat, k ≤ z ∧ nv = .int .i64 ((n / 256 ^ k : Nat) : Int) ∧ sv = .string ⟨(R k).toArray⟩ ∧ iv = .int .i64 (k : Int) ∧ Below w.heap.size w wr) (fun _ _ iv _ => z - (intOf iv).toNat)
  case atStart => exact ⟨0, by omega, by rw [Nat.pow_zero, Nat.div_one], by rw [HZ.out], rfl, Below.refl _ _⟩
  case round =>
    obtain ⟨k, hk, rfl, rfl, rfl, hb⟩ := hrel
    by_cases hlt : k < z
    · have t1 : decide ((k : Int) < (z : Int)) = true := by simp; omega
      have hd : n / 256 ^ k / 256 = n / 256 ^ (k + 1) := by rw [Nat.div_div_eq_div_mul, Nat.pow_succ]
      have hq : n / 256 ^ k ≤ n := Nat.div_le_self _ _
      have hst := HS.out k
      have hlk := HL.out k
      obtain ⟨q, hqq⟩ : ∃ q, n / 256 ^ k = q := ⟨_, rfl⟩
      rw [hqq] at hd hq hst
      have HD := Lib.hid hd
      rw [hqq]
      generalize R k = t at hst hlk
      have e8 : ((q : Int) % 256) = ((UInt8.ofNat q).toNat : Int) := by rw [UInt8.toNat_ofNat']; omega
      have hcv : ∀ W : World, (convert 60 9 (.slice (some ⟨W.heap.size, 0, none⟩) 1 1)).run Try.prog (W.alloc (.cells #[.int .u8 ((q : Int) % 256)] 5)) = .ok (.string ⟨[UInt8.ofNat q].toArray⟩) (W.alloc (.cells #[.int .u8 ((q : Int) % 256)] 5)) := fun W => by rw [e8]; exact conv_one _ W
      clear e8
      have hcat : ¬ (9223372036854775807 < 1 + t.length) := by omega
      generalize UInt8.ofNat q = c at hcv hst
      have HST := Lib.hid hst
      clear hst hd hqq
      go_wp2
      refine ⟨⟨k + 1, by omega, ?_, ?_, by go_num, hb.alloc hb.size _⟩, by simp [intOf]; omega⟩
      · rw [← HD.out]; congr 1
      · rw [HST.out, cat_str1]
    · have hk2 : k = z := by omega
      subst hk2
      go_wp2
      go_ret
      exact ⟨rfl, hb⟩
end Go.Proofs.Ythpbhimmfmablaa

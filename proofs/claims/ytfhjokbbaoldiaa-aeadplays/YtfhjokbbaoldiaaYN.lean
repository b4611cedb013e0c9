/- The document's Eight and full (ref05): walked. -/
import Derived.Test.YtfhjokbbaoldiaaYG
import Derived.Test.YtfhjokbbaoldiaaPH
namespace Go.Proofs.Ytfhjokbbaoldiaa
open Go.RowKit
theorem dg_snoc (B n k : Nat) : dg B n (k + 1) = dg B n k ++ [n / B ^ k % B] := by
  induction k generalizing n with
  | zero => simp [dg]
  | succ k ih =>
    have h := ih (n / B)
    rw [Nat.div_div_eq_div_mul, ← Nat.pow_succ'] at h
    show n % B :: dg B (n / B) (k + 1) = (n % B :: dg B (n / B) k) ++ _
    rw [h]; rfl
theorem lowB_snoc (n k : Nat) : lowB n (k + 1) = lowB n k ++ [UInt8.ofNat (n / 256 ^ k % 256)] := by
  unfold lowB; rw [dg_snoc, List.map_append]; rfl
set_option maxRecDepth 20000 in
set_option maxHeartbeats 1000000 in
theorem eight_any (n : Nat) (hn : n < 2 ^ 64) (w : World) :
    Calls Try.prog 14 #[.int .u64 (n : Int)] w fun e w' => e = .returned (.string ⟨(lowB n 8).toArray⟩) ∧ Below w.heap.size w w' := by
  go_enter Try.func14, Try.ntmps14
  go_wp2
  go_loopw [0, 3, 4] (fun nv sv iv wr => ∃ (j : Nat), j ≤ 8 ∧ nv = .int .u64 ((n / 256 ^ j : Nat) : Int) ∧ sv = .string ⟨(lowB n j).toArray⟩ ∧ iv = .int .i64 (j : Int) ∧ Below w.heap.size w wr) (fun _ _ iv _ => 8 - (intOf iv).toNat)
  case atStart => exact ⟨0, by omega, by rw [Nat.pow_zero, Nat.div_one], rfl, rfl, Below.refl _ _⟩
  case round =>
    obtain ⟨j, hj, rfl, rfl, rfl, hb⟩ := hrel
    by_cases hlt : j < 8
    · have t1 : decide ((j : Int) < 8) = true := by simp; omega
      have hsn := lowB_snoc n j
      have hq2 : n / 256 ^ (j + 1) = n / 256 ^ j / 256 := by rw [Nat.pow_succ, Nat.div_div_eq_div_mul]
      have hqb : n / 256 ^ j < 2 ^ 64 := Nat.lt_of_le_of_lt (Nat.div_le_self _ _) hn
      have hlen : (lowB n j).length = j := lowB_length n j
      have hcat : ¬ (9223372036854775807 < (lowB n j).length + 1) := by omega
      have hcat2 : ¬ (9223372036854775807 ≤ (lowB n j).length) := by omega
      clear hlen
      generalize n / 256 ^ j = q at hsn hq2 hqb ⊢
      generalize lowB n j = A at hsn hcat hcat2 ⊢
      have hyy : (UInt8.ofNat (q % 256)).toNat = q % 256 := by rw [UInt8.toNat_ofNat', Nat.mod_eq_of_lt (by omega)]
      generalize UInt8.ofNat (q % 256) = y at hsn hyy
      have hm : (q : Int).tmod 256 = (y.toNat : Int) := by rw [hyy]; exact tmodN q 256
      have hyb := y.toNat_lt
      have hw1 : IntKind.u64.wrap (y.toNat : Int) = (y.toNat : Int) := wrapN _ (by omega)
      have hw2 : IntKind.u8.wrap (y.toNat : Int) = (y.toNat : Int) := by rw [hyy]; unfold IntKind.wrap; simp [IntKind.bits, IntKind.signed]
      have hm2 : (q : Int) % 256 = (y.toNat : Int) := by rw [hyy]; omega
      obtain ⟨q2, hq3⟩ : ∃ q2, q / 256 = q2 := ⟨_, rfl⟩
      have hd : (q : Int).tdiv 256 = (q2 : Int) := by rw [← hq3]; rfl
      have hd2 : (q : Int) / 256 = (q2 : Int) := by omega
      have hw3 : IntKind.u64.wrap (q2 : Int) = (q2 : Int) := wrapN _ (by omega)
      rw [hq3] at hq2
      have HQ2 := Lib.hid hq2
      have HSN := Lib.hid hsn
      clear hq2 hsn hq3 hyy hqb
      have hcv : (convert 32 9 (.slice (some ⟨wr.heap.size, 0, none⟩) 1 1)).run Try.prog (wr.alloc (.cells #[.int .u8 (y.toNat : Int)] 5)) = .ok (.string ⟨#[y]⟩) (wr.alloc (.cells #[.int .u8 (y.toNat : Int)] 5)) := conv_bytes (Has.fresh wr 5 (bs [y])) 1 1 rfl
      go_wp2
      go_roundw
      case rel =>
        refine ⟨j + 1, by omega, ?_, ?_, by go_num, hb.alloc hb.size _⟩
        · rw [HQ2.out]
        · rw [HSN.out]; rfl
      case measure => simp [intOf]; omega
    · have hj2 : j = 8 := by omega
      subst hj2
      have t1 : decide (((8 : Nat) : Int) < 8) = false := by decide
      go_wp2
      go_ret
      exact ⟨rfl, hb⟩
set_option maxRecDepth 20000 in
set_option maxHeartbeats 1000000 in
theorem full_any (s : ByteArray) (hs : s.size ≤ 400000) (w : World) :
    Calls Try.prog 29 #[.string s] w fun e w' => e = .returned (.string ⟨(s.data.toList ++ padL s.size).toArray⟩) ∧ Below w.heap.size w w' := by
  obtain ⟨c, hc⟩ : ∃ c, (16 - s.size % 16) % 16 = c := ⟨_, rfl⟩
  have hp : padL s.size = List.replicate c 0 := by unfold padL; rw [hc]
  have HP := Lib.hid hp
  clear hp
  go_enter Try.func29, Try.ntmps29
  go_wp2
  go_loopw [0] (fun sv wr => ∃ (j : Nat) (t : ByteArray), j ≤ c ∧ sv = .string t ∧ t.data.toList = s.data.toList ++ List.replicate j 0 ∧ t.size = s.size + j ∧ Below w.heap.size w wr) (fun sv _ => s.size + c - szOf sv)
  case atStart => exact ⟨0, s, by omega, rfl, by simp, rfl, Below.refl _ _⟩
  case round =>
    obtain ⟨j, t, hj, rfl, ht, hts, hb⟩ := hrel
    obtain ⟨r, hr⟩ : ∃ r, t.size % 16 = r := ⟨_, rfl⟩
    have hm : (t.size : Int).tmod 16 = (r : Int) := by rw [← hr]; exact tmodN t.size 16
    have hm' : IntKind.i64.wrap (r : Int) = (r : Int) := by rw [IntWalk.i64_in _ (by omega)]
    have hm2 : (t.size : Int) % 16 = (r : Int) := by omega
    have hcat : ¬ (9223372036854775807 < t.size + 1) := by omega
    have hcat2 : ¬ (9223372036854775807 ≤ t.size) := by omega
    by_cases hlt : j < c
    · have t1 : ((r : Int) != 0) = true := by simp; omega
      have ht2 : (t ++ (⟨#[0]⟩ : ByteArray)).data.toList = s.data.toList ++ List.replicate (j + 1) 0 := by
        rw [ByteArray.data_append, Array.toList_append, ht, List.append_assoc, List.replicate_succ']
      have hts2 : (t ++ (⟨#[0]⟩ : ByteArray)).size = s.size + (j + 1) := by rw [ByteArray.size_append, hts]; rfl
      have HT := Lib.hid (And.intro ht2 hts2)
      have hlc : s.size + c - (s.size + (j + 1)) < s.size + c - t.size := by omega
      have HLC := Lib.hid hlc
      clear ht2 hts2 ht hts hr hlc
      go_wp2
      go_roundw
      case rel => exact ⟨j + 1, _, by omega, rfl, HT.out.1, HT.out.2, hb⟩
      case measure => simp only [szOf]; rw [HT.out.2]; exact HLC.out
    · have hj2 : j = c := by omega
      subst hj2
      have t1 : ((r : Int) != 0) = false := by simp; omega
      rw [← HP.out] at ht
      have he : t = ⟨(s.data.toList ++ padL s.size).toArray⟩ := ext_lists _ _ (by rw [ht, str_list])
      have HE := Lib.hid he
      clear he ht hts hr
      go_wp2
      go_ret
      exact ⟨by rw [HE.out]; rfl, hb⟩
end Go.Proofs.Ytfhjokbbaoldiaa

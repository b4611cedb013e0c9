/- The document's MacText, Sum16: walked. -/
import Derived.Test.YtbeeebnocliaiaaDoorNE
import Derived.Test.YtbeeebnocliaiaaDoorOY
namespace Go.Proofs.YtbeeebnocliaiaaDoor
open Go.RowKit
/-- the first k bytes of an address as a text, marks behind all but the sixth -/
def macP (l : List UInt8) : Nat → List UInt8
  | 0 => []
  | k + 1 => (macP l k ++ [hexD ((l.getD k 0).toNat / 16)] ++ [hexD ((l.getD k 0).toNat % 16)]) ++ (if k < 5 then [58] else [])
theorem macP_all (l : List UInt8) (h : l.length = 6) : macP l 6 = macL l := by
  obtain ⟨a, b, c, d, e, f, rfl⟩ := six l h
  simp [macP, macL, hexL, Lib.join, List.intercalate]
theorem macP_le (l : List UInt8) (k : Nat) : (macP l k).length ≤ 3 * k := by
  induction k with
  | zero => exact Nat.le_refl _
  | succ k ih =>
    unfold macP
    split
    · simp only [List.length_append, List.length_singleton]; omega
    · simp only [List.length_append, List.length_singleton, List.length_nil]; omega
theorem slice_digit : ∀ n, n < 16 → (⟨#[48, 49, 50, 51, 52, 53, 54, 55, 56, 57, 97, 98, 99, 100, 101, 102]⟩ : ByteArray).extract n (n + 1) = ⟨[hexD n].toArray⟩ := by decide
set_option maxRecDepth 20000 in
set_option maxHeartbeats 2000000 in
theorem refMacText_any (l : List UInt8) (hl : l.length = 6) (w : World) :
    Calls Tryd.prog 19 #[.agg (bs l)] w fun e w' => e = .returned (S9 (macL l)) ∧ Below w.heap.size w w' := by
  have M : Mem w [(w.heap.size, 23, bs l)] (w.alloc (.cells (bs l) 23)) := (Mem.init w).alloc _ rfl _ _
  have hend := macP_all l hl
  have hle := macP_le l
  have hst : ∀ k, macP l (k + 1) = (macP l k ++ [hexD ((l.getD k 0).toNat / 16)] ++ [hexD ((l.getD k 0).toNat % 16)]) ++ (if k < 5 then [58] else []) := fun k => rfl
  have hz : macP l 0 = [] := rfl
  generalize macP l = R at hend hle hst hz
  generalize macL l = Q at hend ⊢
  have sl : (bs l).size = 6 := by rw [bs_size, hl]
  have HE := Lib.hid hend
  have HLE := Lib.hid hle
  have HST := Lib.hid hst
  have HZ := Lib.hid hz
  have HL := Lib.hid hl
  clear hend hle hst hz hl
  go_enter Tryd.func19, Tryd.ntmps19
  go_upto_region 1 with fail
  change Code.wp _ _ _ _ (w.alloc (.cells (bs l) 23))
  generalize w.alloc (.cells (bs l) 23) = w0 at M ⊢
  go_wp2
  go_loopw [4, 5] (fun sv iv wr => ∃ k : Nat, k ≤ 6 ∧ sv = S9 (R k) ∧ iv = .int .i64 (k : Int) ∧ Mem w [(w.heap.size, 23, bs l)] wr) (fun _ iv _ => 6 - (intOf iv).toNat)
  case atStart => exact ⟨0, by omega, by rw [HZ.out], rfl, M⟩
  case round =>
    clear M w0
    obtain ⟨k, hk, rfl, rfl, M⟩ := hrel
    by_cases hlt : k < 6
    · have t1 : decide ((k : Int) < 6) = true := by simp; omega
      have hk6 : (k : Int) < 6 := by omega
      have hst := HST.out k
      have hle := HLE.out k
      have hle2 := HLE.out (k + 1)
      have hby : ∀ W, Mem w [(w.heap.size, 23, bs l)] W → W.cell? ⟨w.heap.size, k, none⟩ = some (B8 (l.getD k 0)) := fun W hM => (hM.row 0 rfl).byte k (by rw [HL.out]; exact hlt)
      generalize l.getD k 0 = c at hst hby
      generalize R k = t at hst hle ⊢
      obtain ⟨q, hq⟩ : ∃ q, c.toNat / 16 = q := ⟨_, rfl⟩
      obtain ⟨r, hr⟩ : ∃ r, c.toNat % 16 = r := ⟨_, rfl⟩
      have hc := c.toNat_lt
      have hq16 : q < 16 := by omega
      have hr16 : r < 16 := by omega
      rw [hq, hr] at hst
      have hsq := slice_digit q hq16
      have hsr := slice_digit r hr16
      have e1 : (c.toNat : Int).tdiv 16 = (q : Int) := by rw [Int.tdiv_eq_ediv_of_nonneg (by omega)]; omega
      have e2 : (c.toNat : Int).tmod 16 = (r : Int) := by rw [Int.tmod_eq_emod_of_nonneg (by omega)]; omega
      have e3 : (c.toNat : Int) / 16 = (q : Int) := by omega
      have e4 : (c.toNat : Int) % 16 = (r : Int) := by omega
      have hw : IntKind.i64.wrap (c.toNat : Int) = (c.toNat : Int) := IntWalk.i64_in _ (by omega)
      have hwq : IntKind.i64.wrap (q : Int) = (q : Int) := IntWalk.i64_in _ (by omega)
      have hwr : IntKind.i64.wrap (r : Int) = (r : Int) := IntWalk.i64_in _ (by omega)
      have hwq1 : IntKind.i64.wrap ((q : Int) + 1) = (q : Int) + 1 := IntWalk.i64_in _ (by omega)
      have hwr1 : IntKind.i64.wrap ((r : Int) + 1) = (r : Int) + 1 := IntWalk.i64_in _ (by omega)
      have hqn : ((q : Int) + 1).toNat = q + 1 := by omega
      have hrn : ((r : Int) + 1).toNat = r + 1 := by omega
      have hq1 : (q : Int) + 1 ≤ 16 := by omega
      have hq0 : (0 : Int) ≤ (q : Int) + 1 := by omega
      have hq2 : (q : Int) ≤ (q : Int) + 1 := by omega
      have hr0 : (0 : Int) ≤ (r : Int) + 1 := by omega
      have hr2 : (r : Int) ≤ (r : Int) + 1 := by omega
      have hr1 : (r : Int) + 1 ≤ 16 := by omega
      have HS := Lib.hid hst
      have HQ := Lib.hid (And.intro hq hr)
      clear hst hq hr
      go_upto_region 6 with fail
      refine wp_region_noPanic ?_
      refine wp_region_flow (fin := ?fin1) 12 0 (by kernel_rfl) [.inl (.int .i64 (k : Int)),
        .inl (.pointer (some ⟨w.heap.size, k, none⟩)),
        .inl (B8 c),
        .inl (.int .i64 (c.toNat : Int)),
        .inl (.int .i64 (q : Int)),
        .inl (.int .i64 (k : Int)),
        .inl (.pointer (some ⟨w.heap.size, k, none⟩)),
        .inl (B8 c),
        .inl (.int .i64 (c.toNat : Int)),
        .inl (.int .i64 (r : Int)),
        .inl (.int .i64 (q : Int)),
        .inl (.int .i64 (r : Int))] rfl rfl (by kernel_rfl) ?hfin1 ?hE1 ?hend1
      case hfin1 =>
        intro G
        simp only [flowAll, flowVal, Act.put, List.setIfInBounds_toArray, List.set_cons_zero, List.set_cons_succ]
        exact rfl
      case hE1 =>
        intro G
        refine ⟨Or.inr (fun W hB => known_val rfl (by go_simp)),
          Or.inr (fun W hB => known_val rfl (by go_simp)),
          Or.inr (fun W hB => known_val rfl (by (have hcc := hby W (M.drew.step hB); go_simp))),
          Or.inr (fun W hB => known_val rfl (by go_simp)),
          Or.inr (fun W hB => known_val rfl (by go_simp)),
          Or.inr (fun W hB => known_val rfl (by go_simp)),
          Or.inr (fun W hB => known_val rfl (by go_simp)),
          Or.inr (fun W hB => known_val rfl (by (have hcc := hby W (M.drew.step hB); go_simp))),
          Or.inr (fun W hB => known_val rfl (by go_simp)),
          Or.inr (fun W hB => known_val rfl (by go_simp)),
          Or.inr (fun W hB => known_val rfl (by go_simp)),
          Or.inr (fun W hB => known_val rfl (by go_simp)), trivial⟩
      intro G W hB hM
      replace M := M.drew.step hB
      clear hM hB G
      refine wpAny_end (by kernel_rfl) ?_ _
      refine NoPanic.normal ?_
      go_upto_region 7 with fail
      refine wp_region_noPanic ?_
      refine wp_region_drew (by kernel_rfl) ?_
      refine take0 0 22 (S9 t) _ rfl (by kernel_rfl) (by kernel_rfl) (by kernel_rfl) (fun _ _ _ h => h) rfl rfl (fun w' => by go_simp) ?_
      simp only [Act.put, List.setIfInBounds_toArray, List.set_cons_zero, List.set_cons_succ]
      refine wpAny_flow_pre (fin := ?fin2) 14 0 [0] [.inl (S9 t),
        .inl (.string ⟨#[48, 49, 50, 51, 52, 53, 54, 55, 56, 57, 97, 98, 99, 100, 101, 102]⟩),
        .inl (.int .i64 (q : Int)),
        .inl (.int .i64 (q : Int)),
        .inl (.int .i64 ((q : Int) + 1)),
        .inl (S9 [hexD q]),
        .inl (S9 (t ++ [hexD q])),
        .inl (.string ⟨#[48, 49, 50, 51, 52, 53, 54, 55, 56, 57, 97, 98, 99, 100, 101, 102]⟩),
        .inl (.int .i64 (r : Int)),
        .inl (.int .i64 (r : Int)),
        .inl (.int .i64 ((r : Int) + 1)),
        .inl (S9 [hexD r]),
        .inl (S9 (t ++ [hexD q] ++ [hexD r])),
        .inl (S9 (t ++ [hexD q] ++ [hexD r]))] rfl rfl (by kernel_rfl) rfl (by kernel_rfl) (by kernel_rfl) rfl ?hfin2 ?hE2 ?hend2
      case hfin2 =>
        intro G
        simp only [flowAll, flowVal, Act.put, List.setIfInBounds_toArray, List.set_cons_zero, List.set_cons_succ]
        exact rfl
      case hE2 =>
        intro G
        refine ⟨Or.inl rfl,
          Or.inr (fun W hB => known_val rfl (by go_simp)),
          Or.inr (fun W hB => known_val rfl (by go_simp)),
          Or.inr (fun W hB => known_val rfl (by go_simp)),
          Or.inr (fun W hB => known_val rfl (by go_simp)),
          Or.inr (fun W hB => known_val rfl (by go_simp)),
          Or.inr (fun W hB => known_val rfl (by exact exec_cat (.tmp 22) (.tmp 27) ⟨t.toArray⟩ ⟨[hexD q].toArray⟩ _ (cat_str t _) (by show ¬ (_ < t.length + 1); omega) rfl rfl rfl)),
          Or.inr (fun W hB => known_val rfl (by go_simp)),
          Or.inr (fun W hB => known_val rfl (by go_simp)),
          Or.inr (fun W hB => known_val rfl (by go_simp)),
          Or.inr (fun W hB => known_val rfl (by go_simp)),
          Or.inr (fun W hB => known_val rfl (by go_simp)),
          Or.inr (fun W hB => known_val rfl (by exact exec_cat (.tmp 28) (.tmp 33) ⟨(t ++ [hexD q]).toArray⟩ ⟨[hexD r].toArray⟩ _ (cat_str _ _) (by show ¬ (_ < (t ++ [hexD q]).length + 1); rw [List.length_append, List.length_singleton]; omega) rfl rfl rfl)),
          Or.inr (fun W hB => known_val rfl (by go_simp)), trivial⟩
      intro G W2 hB hM
      replace M := M.drew.step hB
      clear hM hB G
      refine wpAny_end (by kernel_rfl) ?_ _
      refine NoPanic.normal ?_
      have hcat : ¬ (9223372036854775807 < (t ++ [hexD q] ++ [hexD r]).length + 1) := by simp only [List.length_append, List.length_singleton]; omega
      by_cases h5 : k < 5
      · have t5 : decide ((k : Int) < 5) = true := by simp; omega
        rw [if_pos h5] at HS
        have hc3 := cat_str (t ++ [hexD q] ++ [hexD r]) [58]
        generalize t ++ [hexD q] ++ [hexD r] = y at hcat hc3 HS ⊢
        go_wp2
        exact ⟨⟨k + 1, by omega, by rw [HS.out], by go_num, M⟩, by simp [intOf]; omega⟩
      · have t5 : decide ((k : Int) < 5) = false := by simp; omega
        rw [if_neg h5, List.append_nil] at HS
        generalize t ++ [hexD q] ++ [hexD r] = y at hcat HS ⊢
        go_wp2
        exact ⟨⟨k + 1, by omega, by rw [HS.out], by go_num, M⟩, by simp [intOf]; omega⟩
    · have hk2 : k = 6 := by omega
      subst hk2
      rw [HE.out]
      go_wp2
      go_ret
      exact ⟨rfl, M.below⟩
end Go.Proofs.YtbeeebnocliaiaaDoor

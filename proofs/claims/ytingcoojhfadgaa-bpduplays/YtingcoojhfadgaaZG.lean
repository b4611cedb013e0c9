/- bpdu.Less, bpdu.To, the document's Less: walked; which identifier is less, as a plain order. -/
import Derived.Test.YtingcoojhfadgaaZF
import Derived.Deep.DeepCutAuto
import Derived.Deep.RegionWith
namespace Go.Proofs.Ytingcoojhfadgaa
open Go.RowKit
/-- the first byte that is unlike decides -/
def lessL : List UInt8 → List UInt8 → Bool
  | x :: a, y :: b => if x = y then lessL a b else decide (x.toNat < y.toNat)
  | _, _ => false
theorem lessL_same (a : List UInt8) : lessL a a = false := by
  induction a with
  | nil => rfl
  | cons x a ih => unfold lessL; rw [if_pos rfl, ih]
theorem lessL_not : ∀ a b : List UInt8, lessL a b = true → lessL b a = false
  | [], _, h => by simp [lessL] at h
  | _ :: _, [], h => by simp [lessL] at h
  | x :: a, y :: b, h => by
    unfold lessL at h ⊢
    by_cases e : x = y
    · subst e
      rw [if_pos rfl] at h ⊢
      exact lessL_not a b h
    · rw [if_neg e] at h
      rw [if_neg (fun h2 => e h2.symm)]
      simp only [decide_eq_true_eq] at h
      simp only [decide_eq_false_iff_not]
      omega
theorem lessL_one : ∀ a b : List UInt8, a.length = b.length → lessL a b = false → lessL b a = false → a = b
  | [], [], _, _, _ => rfl
  | x :: a, y :: b, hl, h1, h2 => by
    unfold lessL at h1 h2
    by_cases e : x = y
    · subst e
      rw [if_pos rfl] at h1 h2
      rw [lessL_one a b (by simpa using hl) h1 h2]
    · rw [if_neg e] at h1
      rw [if_neg (fun h3 => e h3.symm)] at h2
      simp only [decide_eq_false_iff_not] at h1 h2
      exact absurd (UInt8.toNat_inj.1 (by omega)) e
theorem lessL_trans : ∀ a b c : List UInt8, lessL a b = true → lessL b c = true → lessL a c = true
  | [], _, _, h, _ => by simp [lessL] at h
  | _ :: _, [], _, h, _ => by simp [lessL] at h
  | _ :: _, _ :: _, [], _, h => by simp [lessL] at h
  | x :: a, y :: b, z :: c, h1, h2 => by
    unfold lessL at h1 h2 ⊢
    by_cases e : x = y
    · subst e
      rw [if_pos rfl] at h1
      by_cases e2 : x = z
      · rw [if_pos e2] at h2 ⊢
        exact lessL_trans a b c h1 h2
      · rw [if_neg e2] at h2 ⊢
        exact h2
    · rw [if_neg e] at h1
      by_cases e2 : y = z
      · subst e2
        rw [if_neg e]
        exact h1
      · rw [if_neg e2] at h2
        simp only [decide_eq_true_eq] at h1 h2
        have e3 : x ≠ z := fun h => by rw [h] at h1; omega
        rw [if_neg e3]
        simp only [decide_eq_true_eq]
        omega
theorem lessL_step (a b : List UInt8) (k : Nat) (ha : k < a.length) (hb : k < b.length) : lessL (a.drop k) (b.drop k) = if a.getD k 0 = b.getD k 0 then lessL (a.drop (k + 1)) (b.drop (k + 1)) else decide ((a.getD k 0).toNat < (b.getD k 0).toNat) := by
  rw [List.drop_eq_getElem_cons ha, List.drop_eq_getElem_cons hb]
  rw [List.getD_eq_getElem?_getD, List.getD_eq_getElem?_getD, List.getElem?_eq_getElem ha, List.getElem?_eq_getElem hb]
  rfl
set_option maxRecDepth 20000 in
set_option maxHeartbeats 2000000 in
theorem less_any (a b : List UInt8) (ha : a.length = 8) (hb : b.length = 8) (w : World) : Calls Try.prog 15 #[.agg (bs a), .agg (bs b)] w fun e w' => e = .returned (.bool (lessL a b)) ∧ Below w.heap.size w w' := by
  have M : Mem w [(w.heap.size, 26, bs a), (w.heap.size + 1, 26, bs b)] ((w.alloc (.cells (bs a) 26)).alloc (.cells (bs b) 26)) :=
    ((Mem.init w).alloc _ rfl _ _).alloc _ (by simp) _ _
  obtain ⟨P, hP⟩ : ∃ P : Nat → Bool, ∀ k, lessL (a.drop k) (b.drop k) = P k := ⟨fun k => lessL (a.drop k) (b.drop k), fun _ => rfl⟩
  have h0 : lessL a b = P 0 := hP 0
  have h8 : P 8 = false := by rw [← hP, List.drop_of_length_le (by omega)]; rfl
  have hst : ∀ k, k < 8 → P k = if a.getD k 0 = b.getD k 0 then P (k + 1) else decide ((a.getD k 0).toNat < (b.getD k 0).toNat) := fun k hk => by
    rw [← hP, ← hP]
    exact lessL_step a b k (by omega) (by omega)
  rw [h0]
  clear h0 hP
  have HST := Lib.hid hst
  have H8 := Lib.hid h8
  have HA := Lib.hid ha
  have HB := Lib.hid hb
  clear hst h8 ha hb
  go_enter Try.func15, Try.ntmps15
  go_upto_region 1 with fail
  change Code.wp _ _ _ _ ((w.alloc (.cells (bs a) 26)).alloc (.cells (bs b) 26))
  generalize (w.alloc (.cells (bs a) 26)).alloc (.cells (bs b) 26) = W0 at M ⊢
  generalize w.heap.size + 1 = gb at M ⊢
  go_upto_region 2 with fail
  go_loopw [6] (fun i wr => ∃ k : Nat, k ≤ 8 ∧ P k = P 0 ∧ i = .int .i64 (k : Int) ∧ Mem w [(w.heap.size, 26, bs a), (gb, 26, bs b)] wr) (fun i _ => 8 - (intOf i).toNat)
  case atStart => exact ⟨0, by omega, rfl, rfl, M⟩
  case round =>
    obtain ⟨k, hk, hpk, rfl, M⟩ := hrel
    by_cases hlt : k < 8
    · have t1 : decide ((k : Int) < 8) = true := by simp; omega
      have tk : (k : Int) < 8 := by omega
      have hs := HST.out k hlt
      obtain ⟨x, hx⟩ : ∃ x, a.getD k 0 = x := ⟨_, rfl⟩
      obtain ⟨y, hy⟩ : ∃ y, b.getD k 0 = y := ⟨_, rfl⟩
      rw [hx, hy] at hs
      have HX := Lib.hid hx
      have HY := Lib.hid hy
      clear hx hy
      by_cases e : x = y
      · rw [if_pos e] at hs
        have t2 : ((x.toNat : Int) != (y.toNat : Int)) = false := by rw [e]; simp
        rw [hs] at hpk
        have HP := Lib.hid hpk
        clear hs hpk e
        go_upto_region 4 with fail
        refine wp_region_noPanic ?_
        refine wp_region_flow (fin := ?fin1) 7 0 (by kernel_rfl) [.inl (.int .i64 (k : Int)),
          .inl (.pointer (some ⟨w.heap.size, k, none⟩)),
          .inl (.int .u8 (x.toNat : Int)),
          .inl (.int .i64 (k : Int)),
          .inl (.pointer (some ⟨gb, k, none⟩)),
          .inl (.int .u8 (y.toNat : Int)),
          .inl (.bool false)] rfl rfl (by kernel_rfl) ?hfin1 ?hE1 ?hend1
        case hfin1 =>
          intro G
          simp only [flowAll, flowVal, Act.put, List.setIfInBounds_toArray, List.set_cons_zero, List.set_cons_succ]
          exact rfl
        case hE1 =>
          intro G
          refine ⟨Or.inr (fun W hB hR => known_val rfl (by go_simp)),
            Or.inr (fun W hB hR => known_val rfl (by go_simp)),
            Or.inr (fun W hB hR => known_val rfl (by have h1 : W.cell? ⟨w.heap.size, k, none⟩ = some (.int .u8 (x.toNat : Int)) := (by have h2 := ((M.drew.step hB).row 0 rfl).byte k (by rw [HA.out]; exact hlt); rw [HX.out] at h2; exact h2); go_simp)),
            Or.inr (fun W hB hR => known_val rfl (by go_simp)),
            Or.inr (fun W hB hR => known_val rfl (by go_simp)),
            Or.inr (fun W hB hR => known_val rfl (by have h1 : W.cell? ⟨gb, k, none⟩ = some (.int .u8 (y.toNat : Int)) := (by have h2 := ((M.drew.step hB).row 1 rfl).byte k (by rw [HB.out]; exact hlt); rw [HY.out] at h2; exact h2); go_simp)),
            Or.inr (fun W hB hR => known_val rfl (by go_simp)), trivial⟩
        intro G W hB hM
        replace M := M.drew.step hB
        clear hB hM G
        refine wpAny_end (by kernel_rfl) ?_ _
        refine NoPanic.normal ?_
        go_wp2
        go_roundw
        case rel => exact ⟨k + 1, by omega, HP.out, by go_num, M⟩
        case measure => simp [intOf]; omega
      · rw [if_neg e] at hs
        have t2 : ((x.toNat : Int) != (y.toNat : Int)) = true := by simp only [bne_iff_ne, ne_eq]; intro h; exact e (UInt8.toNat_inj.1 (by omega))
        rw [hs] at hpk
        have hd : decide ((x.toNat : Int) < (y.toNat : Int)) = decide (x.toNat < y.toNat) := by simp
        have HP := Lib.hid (hd.trans hpk)
        clear hs hpk e hd
        go_upto_region 4 with fail
        refine wp_region_noPanic ?_
        refine wp_region_flow (fin := ?fin2) 7 0 (by kernel_rfl) [.inl (.int .i64 (k : Int)),
          .inl (.pointer (some ⟨w.heap.size, k, none⟩)),
          .inl (.int .u8 (x.toNat : Int)),
          .inl (.int .i64 (k : Int)),
          .inl (.pointer (some ⟨gb, k, none⟩)),
          .inl (.int .u8 (y.toNat : Int)),
          .inl (.bool true)] rfl rfl (by kernel_rfl) ?hfin2 ?hE2 ?hend2
        case hfin2 =>
          intro G
          simp only [flowAll, flowVal, Act.put, List.setIfInBounds_toArray, List.set_cons_zero, List.set_cons_succ]
          exact rfl
        case hE2 =>
          intro G
          refine ⟨Or.inr (fun W hB hR => known_val rfl (by go_simp)),
            Or.inr (fun W hB hR => known_val rfl (by go_simp)),
            Or.inr (fun W hB hR => known_val rfl (by have h1 : W.cell? ⟨w.heap.size, k, none⟩ = some (.int .u8 (x.toNat : Int)) := (by have h2 := ((M.drew.step hB).row 0 rfl).byte k (by rw [HA.out]; exact hlt); rw [HX.out] at h2; exact h2); go_simp)),
            Or.inr (fun W hB hR => known_val rfl (by go_simp)),
            Or.inr (fun W hB hR => known_val rfl (by go_simp)),
            Or.inr (fun W hB hR => known_val rfl (by have h1 : W.cell? ⟨gb, k, none⟩ = some (.int .u8 (y.toNat : Int)) := (by have h2 := ((M.drew.step hB).row 1 rfl).byte k (by rw [HB.out]; exact hlt); rw [HY.out] at h2; exact h2); go_simp)),
            Or.inr (fun W hB hR => known_val rfl (by go_simp)), trivial⟩
        intro G W hB hM
        replace M := M.drew.step hB
        clear hB hM G
        refine wpAny_end (by kernel_rfl) ?_ _
        refine NoPanic.normal ?_
        clear t2
        go_upto_region 5 with fail
        refine wp_region_noPanic ?_
        refine wp_region_flow (fin := ?fin3) 8 0 (by kernel_rfl) [.inl (.int .i64 (k : Int)),
          .inl (.pointer (some ⟨w.heap.size, k, none⟩)),
          .inl (.int .u8 (x.toNat : Int)),
          .inl (.int .i64 (k : Int)),
          .inl (.pointer (some ⟨gb, k, none⟩)),
          .inl (.int .u8 (y.toNat : Int)),
          .inl (.bool (decide ((x.toNat : Int) < (y.toNat : Int)))),
          .inl (.bool (decide ((x.toNat : Int) < (y.toNat : Int))))] rfl rfl (by kernel_rfl) ?hfin3 ?hE3 ?hend3
        case hfin3 =>
          intro G
          simp only [flowAll, flowVal, Act.put, List.setIfInBounds_toArray, List.set_cons_zero, List.set_cons_succ]
          exact rfl
        case hE3 =>
          intro G
          refine ⟨Or.inr (fun W hB hR => known_val rfl (by go_simp)),
            Or.inr (fun W hB hR => known_val rfl (by go_simp)),
            Or.inr (fun W hB hR => known_val rfl (by have h1 : W.cell? ⟨w.heap.size, k, none⟩ = some (.int .u8 (x.toNat : Int)) := (by have h2 := ((M.drew.step hB).row 0 rfl).byte k (by rw [HA.out]; exact hlt); rw [HX.out] at h2; exact h2); go_simp)),
            Or.inr (fun W hB hR => known_val rfl (by go_simp)),
            Or.inr (fun W hB hR => known_val rfl (by go_simp)),
            Or.inr (fun W hB hR => known_val rfl (by have h1 : W.cell? ⟨gb, k, none⟩ = some (.int .u8 (y.toNat : Int)) := (by have h2 := ((M.drew.step hB).row 1 rfl).byte k (by rw [HB.out]; exact hlt); rw [HY.out] at h2; exact h2); go_simp)),
            Or.inr (fun W hB hR => known_val rfl (by go_simp)),
            Or.inr (fun W hB hR => known_val rfl (by go_simp)), trivial⟩
        intro G W hB hM
        replace M := M.drew.step hB
        clear hB hM G
        refine wpAny_end (by kernel_rfl) ?_ _
        refine NoPanic.normal ?_
        rw [HP.out]
        go_wp2
        go_ret
        exact ⟨rfl, M.below⟩
    · have hk2 : k = 8 := by omega
      subst hk2
      have HP := Lib.hid (hpk.symm.trans H8.out)
      have HM := Lib.hid M.below
      clear hlt hpk M
      go_wp2
      go_ret
      exact ⟨by rw [HP.out]; rfl, HM.out⟩
end Go.Proofs.Ytingcoojhfadgaa

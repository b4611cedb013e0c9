/- The walk of law ShaPlays. -/
import Derived.Test.YtpkmhdnpnbkhiaaDoorRK
namespace Go.Proofs.YtpkmhdnpnbkhiaaDoor
open Go.RowKit
theorem same32 (L : List UInt8) (hl : L.length = 32) (w : World) : (Op.equalIn 10000 32 (.agg (bs L)) (.agg (bs L))).run Tryd.prog w = .ok true w := by
  have h := eq_bytes (P := Tryd.prog) w 32 5 32 Tryd.underlying32 Tryd.underlying5 (by kernel_rfl) L L hl hl
  have hself : (L == L) = true := by simp
  rw [hself] at h
  exact h
theorem refBlock_lit (v : W8) (s : ByteArray) (r : W8) (hr : blk v s.data.toList = r) (hs : s.size = 64) (w : World) :
    Calls Tryd.prog 18 #[.agg #[W32 v.a, W32 v.b, W32 v.c, W32 v.d, W32 v.e, W32 v.f, W32 v.g, W32 v.h], .string s, .agg (ws kk)] w fun e w' => e = .returned (.agg #[W32 r.a, W32 r.b, W32 r.c, W32 r.d, W32 r.e, W32 r.f, W32 r.g, W32 r.h]) ∧ Below w.heap.size w w' := by
  have h := refBlock_any v s hs w
  rw [hr, c8_lit, c8_lit] at h
  exact h
set_option maxRecDepth 100000 in
set_option maxHeartbeats 2000000 in
theorem plays_short (s : ByteArray) (v : W8) (hs : s.size ≤ 400) (w : World) (hK : HasK w) :
    Calls Tryd.prog 5 #[.string s, .agg (c8 v)] w fun e w' => e = .returned (.bool true) ∧ Below w.heap.size w w' := by
  have hs2 : decide (400 < (s.size : Int)) = false := by simp; omega
  have E : FEnv w w.heap.size v (w.alloc (.cells (c8 v) 26)) := ⟨Has.fresh w 26 _, hK.below hK.lt ((Below.refl _ _).alloc (Nat.le_refl _) _), (Below.refl _ _).alloc (Nat.le_refl _) _⟩
  have hl : (keyL (sumW s.data.toList)).length = 32 := by simp [keyL]
  have hc1 := sum_any s (by omega)
  have hc2 := refSum_any s hs
  generalize keyL (sumW s.data.toList) = L at hl hc1 hc2
  have heq := same32 L hl
  have HC1 := Lib.hid hc1
  have HC2 := Lib.hid hc2
  clear hc1 hc2 hl
  have hf1 := fill_any s (by omega)
  have hf2 := refFill_any s hs
  generalize filled s = t at hf1 hf2
  have HF1 := Lib.hid hf1
  have HF2 := Lib.hid hf2
  clear hf1 hf2
  go_enter Tryd.func5, Tryd.ntmps5
  go_wp2_with fail
  generalize (w.alloc (.cells (c8 v) 26)) = wr at E ⊢
  refine (awake_any _ E.2.1).mono ?_
  rintro e wq ⟨rfl, hbq⟩
  replace E := E.step hbq
  clear hbq wr
  go_wp2_with fail
  have hk := E.2.1
  refine (HC1.out _ hk).mono ?_
  rintro e wr ⟨rfl, hbq⟩
  replace E := E.step hbq
  clear hbq hk wq HC1
  go_wp2_with fail
  refine (HC2.out _).mono ?_
  rintro e wq ⟨rfl, hbq⟩
  replace E := E.step hbq
  clear hbq wr HC2
  go_wp2_with fail
  refine (HF1.out _).mono ?_
  rintro e wr ⟨rfl, hbq⟩
  replace E := E.step hbq
  clear hbq wq HF1
  go_wp2_with fail
  refine (HF2.out _).mono ?_
  rintro e wq ⟨rfl, hbq⟩
  replace E := E.step hbq
  clear hbq wr HF2 heq
  by_cases h64 : s.size < 64
  · have t1 : decide ((s.size : Int) < 64) = true := by simp; omega
    go_wp2
    go_quiet (fail)
    have bq : Below wq.heap.size wq (wq.drewN nq) := below_drewN (Below.refl _ _) nq
    replace E := E.step bq
    clear bq
    generalize wq.drewN nq = wz at E ⊢
    go_wp2
    go_ret
    exact ⟨rfl, E.2.2⟩
  · have t1 : decide ((s.size : Int) < 64) = false := by simp; omega
    have t2 : (64 : Int) ≤ (s.size : Int) := by omega
    have t3 : 64 ≤ s.size := by omega
    obtain ⟨r, hr1⟩ : ∃ r, blk v s.data.toList = r := ⟨_, rfl⟩
    have hr2 : blk v (s.extract 0 64).data.toList = r := by
      rw [← hr1]
      refine blk_congr _ _ _ (fun i hi => ?_)
      have e1 : (s.extract 0 64).data.toList = s.data.toList.take 64 := by rw [ByteArray.data_extract, Array.toList_extract, List.extract_eq_take_drop]; simp
      rw [e1]
      simp only [List.getD_eq_getElem?_getD]
      rw [List.getElem?_take_of_lt hi]
    have HB1 := Lib.hid (block_lit v s r hr1 t3 (by omega))
    have HB2 := Lib.hid (refBlock_lit v (s.extract 0 64) r hr2 (by rw [ByteArray.size_extract]; omega))
    have HKK := Lib.hid refConstants_any
    clear hr1 hr2
    have hq := same8 r
    go_wp2
    replace E := E.drew
    obtain ⟨xa, xb, xc, xd, xe, xf, xg, xh⟩ := v
    simp only at HB1 HB2 hq
    generalize ws kk = KK at HB2 HKK
    go_region_held3 (fun w' => w'.cell? ⟨w.heap.size, 0, none⟩ = some (W32 xa) ∧ w'.cell? ⟨w.heap.size, 1, none⟩ = some (W32 xb) ∧ w'.cell? ⟨w.heap.size, 2, none⟩ = some (W32 xc) ∧ w'.cell? ⟨w.heap.size, 3, none⟩ = some (W32 xd) ∧ w'.cell? ⟨w.heap.size, 4, none⟩ = some (W32 xe) ∧ w'.cell? ⟨w.heap.size, 5, none⟩ = some (W32 xf) ∧ w'.cell? ⟨w.heap.size, 6, none⟩ = some (W32 xg) ∧ w'.cell? ⟨w.heap.size, 7, none⟩ = some (W32 xh))
      (exact E.1.c8_all)
      (first
        | (go_at_call 14; have hk := E.2.1; have hc := HB1.out; (with_reducible refine (hc _ hk).mono ?_); clear hk hc; rintro e w2 ⟨rfl, hb2⟩; replace E := E.step hb2)
        | (go_at_call 19; have hc := HKK.out; (with_reducible refine (hc _).mono ?_); clear hc; rintro e w2 ⟨rfl, hb2⟩; replace E := E.step hb2)
        | (go_at_call 18; have hc := HB2.out; (with_reducible refine (hc _).mono ?_); clear hc; rintro e w2 ⟨rfl, hb2⟩; replace E := E.step hb2)
        | fail)
    all_goals
      go_wp2
      go_ret
      exact ⟨rfl, E.2.2⟩
set_option maxHeartbeats 400000 in
theorem playsLaw_any (s : ByteArray) (v : W8) (w : World) (hK : HasK w) :
    Calls Tryd.prog 5 #[.string s, .agg (c8 v)] w fun e w' => e = .returned (.bool true) ∧ Below w.heap.size w w' := by
  by_cases h1 : 400 < s.size
  · have E : FEnv w w.heap.size v (w.alloc (.cells (c8 v) 26)) := ⟨Has.fresh w 26 _, hK.below hK.lt ((Below.refl _ _).alloc (Nat.le_refl _) _), (Below.refl _ _).alloc (Nat.le_refl _) _⟩
    go_enter Tryd.func5, Tryd.ntmps5
    go_wp2_with (go_at_call 10; refine (awake_any _ E.2.1).mono ?_; rintro e wq ⟨rfl, hbq⟩; replace E := E.step hbq)
    go_ret
    exact ⟨rfl, E.2.2⟩
  · exact plays_short s v (by omega) w hK
end Go.Proofs.YtpkmhdnpnbkhiaaDoor

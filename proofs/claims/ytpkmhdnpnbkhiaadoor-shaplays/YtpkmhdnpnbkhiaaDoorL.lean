/- The walk of law ShaFirst, and what laws on blocks share. -/
import Derived.Test.YtpkmhdnpnbkhiaaDoorK
import Derived.Deep.RegionHeld3
namespace Go.Proofs.YtpkmhdnpnbkhiaaDoor
open Go.RowKit
theorem block_lit (v : W8) (s : ByteArray) (r : W8) (hr : blk v s.data.toList = r) (hs : 64 ≤ s.size) (hm : s.size ≤ 1000000) (w : World) (hK : HasK w) :
    Calls Tryd.prog 14 #[.agg #[W32 v.a, W32 v.b, W32 v.c, W32 v.d, W32 v.e, W32 v.f, W32 v.g, W32 v.h], .string s] w fun e w' => e = .returned (.agg #[W32 r.a, W32 r.b, W32 r.c, W32 r.d, W32 r.e, W32 r.f, W32 r.g, W32 r.h]) ∧ Below w.heap.size w w' := by
  have h := block_long v s hs (by omega) w hK
  rw [hr, c8_lit, c8_lit] at h
  exact h
theorem block_short_lit (v : W8) (s : ByteArray) (hs : s.size < 64) (w : World) :
    Calls Tryd.prog 14 #[.agg #[W32 v.a, W32 v.b, W32 v.c, W32 v.d, W32 v.e, W32 v.f, W32 v.g, W32 v.h], .string s] w fun e w' => e = .returned (.agg #[W32 v.a, W32 v.b, W32 v.c, W32 v.d, W32 v.e, W32 v.f, W32 v.g, W32 v.h]) ∧ Below w.heap.size w w' := by
  have h := block_short v s hs w
  rw [c8_lit] at h
  exact h
theorem same8 (v : W8) (w : World) : (Op.equalIn 10000 26 (.agg #[W32 v.a, W32 v.b, W32 v.c, W32 v.d, W32 v.e, W32 v.f, W32 v.g, W32 v.h]) (.agg #[W32 v.a, W32 v.b, W32 v.c, W32 v.d, W32 v.e, W32 v.f, W32 v.g, W32 v.h])).run Tryd.prog w = .ok true w := by
  have h := eq_words (P := Tryd.prog) w 26 25 8 Tryd.underlying26 Tryd.underlying25 (by kernel_rfl) v.l v.l rfl rfl
  have hself : (v.l == v.l) = true := by simp
  rw [hself] at h
  exact h
/-- what memory holds in the midst of a law on blocks -/
def FEnv (w : World) (g : Nat) (v : W8) (W : World) : Prop := Has W g 26 (c8 v) ∧ HasK W ∧ Below w.heap.size w W
theorem FEnv.step {w : World} {g : Nat} {v : W8} {W W' : World} (h : FEnv w g v W) (hb : Below W.heap.size W W') : FEnv w g v W' :=
  ⟨h.1.below hb h.1.lt, h.2.1.below h.2.1.lt hb, h.2.2.trans (hb.mono h.2.2.size)⟩
theorem FEnv.drew {w : World} {g : Nat} {v : W8} {W : World} (h : FEnv w g v W) : FEnv w g v W.drew := ⟨h.1, h.2.1, h.2.2.drew⟩
set_option maxHeartbeats 400000 in
theorem first_any (v : W8) (s m : ByteArray) (w : World) (hK : HasK w) :
    Calls Tryd.prog 9 #[.agg (c8 v), .string s, .string m] w fun e w' => e = .returned (.bool true) ∧ Below w.heap.size w w' := by
  have E : FEnv w w.heap.size v (w.alloc (.cells (c8 v) 26)) := ⟨Has.fresh w 26 _, hK.below hK.lt ((Below.refl _ _).alloc (Nat.le_refl _) _), (Below.refl _ _).alloc (Nat.le_refl _) _⟩
  have heq := fun r => same8 r
  by_cases h1 : 400 < s.size
  · go_enter Tryd.func9, Tryd.ntmps9
    go_wp2_with (go_at_call 10; refine (awake_any _ E.2.1).mono ?_; rintro e wq ⟨rfl, hbq⟩; replace E := E.step hbq)
    go_ret
    exact ⟨rfl, E.2.2⟩
  by_cases h2 : 400 < m.size
  · go_enter Tryd.func9, Tryd.ntmps9
    go_wp2_with (go_at_call 10; refine (awake_any _ E.2.1).mono ?_; rintro e wq ⟨rfl, hbq⟩; replace E := E.step hbq)
    go_ret
    exact ⟨rfl, E.2.2⟩
  by_cases h3 : s.size < 64
  · go_enter Tryd.func9, Tryd.ntmps9
    go_wp2_with (go_at_call 10; refine (awake_any _ E.2.1).mono ?_; rintro e wq ⟨rfl, hbq⟩; replace E := E.step hbq)
    replace E := E.drew
    obtain ⟨xa, xb, xc, xd, xe, xf, xg, xh⟩ := v
    have HC := Lib.hid (block_short_lit ⟨xa, xb, xc, xd, xe, xf, xg, xh⟩ s h3)
    have hq := heq ⟨xa, xb, xc, xd, xe, xf, xg, xh⟩
    clear heq
    simp only at HC hq
    go_region_held3 (fun w' => w'.cell? ⟨w.heap.size, 0, none⟩ = some (W32 xa) ∧ w'.cell? ⟨w.heap.size, 1, none⟩ = some (W32 xb) ∧ w'.cell? ⟨w.heap.size, 2, none⟩ = some (W32 xc) ∧ w'.cell? ⟨w.heap.size, 3, none⟩ = some (W32 xd) ∧ w'.cell? ⟨w.heap.size, 4, none⟩ = some (W32 xe) ∧ w'.cell? ⟨w.heap.size, 5, none⟩ = some (W32 xf) ∧ w'.cell? ⟨w.heap.size, 6, none⟩ = some (W32 xg) ∧ w'.cell? ⟨w.heap.size, 7, none⟩ = some (W32 xh))
      (exact E.1.c8_all)
      (first | (go_at_call 14; refine (HC.out _).mono ?_; rintro e w2 ⟨rfl, hb2⟩; replace E := E.step hb2))
    go_wp2
    go_ret
    exact ⟨rfl, E.2.2⟩
  · obtain ⟨r, hr1⟩ : ∃ r, blk v (s ++ m).data.toList = r := ⟨_, rfl⟩
    have hr2 : blk v (s.extract 0 64).data.toList = r := by
      rw [← hr1]
      refine blk_congr _ _ _ (fun i hi => ?_)
      have e1 : (s.extract 0 64).data.toList = s.data.toList.take 64 := by rw [ByteArray.data_extract, Array.toList_extract, List.extract_eq_take_drop]; simp
      have hsl : i < s.data.toList.length := by rw [len_list]; omega
      rw [e1, ByteArray.data_append, Array.toList_append]
      simp only [List.getD_eq_getElem?_getD]
      rw [List.getElem?_take_of_lt hi, List.getElem?_append_left hsl]
    have hz1 : 64 ≤ (s ++ m).size := by rw [ByteArray.size_append]; omega
    have hz2 : 64 ≤ (s.extract 0 64).size := by rw [ByteArray.size_extract]; omega
    have hy1 : (s ++ m).size ≤ 1000000 := by rw [ByteArray.size_append]; omega
    have hy2 : (s.extract 0 64).size ≤ 1000000 := by rw [ByteArray.size_extract]; omega
    have HC1 := Lib.hid (block_lit v (s ++ m) r hr1 hz1 hy1)
    have HC2 := Lib.hid (block_lit v (s.extract 0 64) r hr2 hz2 hy2)
    clear hr1 hr2 hz1 hz2 hy1 hy2
    have hcat : ¬ (9223372036854775807 < s.size + m.size) := by omega
    go_enter Tryd.func9, Tryd.ntmps9
    go_wp2_with (go_at_call 10; refine (awake_any _ E.2.1).mono ?_; rintro e wq ⟨rfl, hbq⟩; replace E := E.step hbq)
    replace E := E.drew
    obtain ⟨xa, xb, xc, xd, xe, xf, xg, xh⟩ := v
    have hq := heq r
    clear heq
    simp only at HC1 HC2 hq
    go_region_held3 (fun w' => w'.cell? ⟨w.heap.size, 0, none⟩ = some (W32 xa) ∧ w'.cell? ⟨w.heap.size, 1, none⟩ = some (W32 xb) ∧ w'.cell? ⟨w.heap.size, 2, none⟩ = some (W32 xc) ∧ w'.cell? ⟨w.heap.size, 3, none⟩ = some (W32 xd) ∧ w'.cell? ⟨w.heap.size, 4, none⟩ = some (W32 xe) ∧ w'.cell? ⟨w.heap.size, 5, none⟩ = some (W32 xf) ∧ w'.cell? ⟨w.heap.size, 6, none⟩ = some (W32 xg) ∧ w'.cell? ⟨w.heap.size, 7, none⟩ = some (W32 xh))
      (exact E.1.c8_all)
      (first
        | (go_at_call 14; have hk := E.2.1; have hc := HC1.out; (with_reducible refine (hc _ hk).mono ?_); clear hk hc; rintro e w2 ⟨rfl, hb2⟩; replace E := E.step hb2)
        | (go_at_call 14; have hk := E.2.1; have hc := HC2.out; (with_reducible refine (hc _ hk).mono ?_); clear hk hc; rintro e w2 ⟨rfl, hb2⟩; replace E := E.step hb2)
        | fail)
    all_goals
      go_wp2
      go_ret
      exact ⟨rfl, E.2.2⟩
end Go.Proofs.YtpkmhdnpnbkhiaaDoor

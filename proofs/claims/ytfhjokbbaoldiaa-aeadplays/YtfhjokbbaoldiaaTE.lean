/- cha.doubleRound's closure: walked. -/
import Derived.Test.YtfhjokbbaoldiaaTB
import Derived.Test.YtfhjokbbaoldiaaHG
import Derived.RegionTactic
import Derived.BigRegion
import Derived.Deep.RegionWith
import Derived.Deep.WholeRow
namespace Go.Proofs.Ytfhjokbbaoldiaa
open Go.RowKit
/-- all is as it was, but one block -/
structure Only (g : Nat) (w w' : World) : Prop where
  size : w'.heap.size = w.heap.size
  block : ∀ k, k ≠ g → w'.heap[k]? = w.heap[k]?
  below : ∀ B w0, B ≤ g → Below B w0 w → Below B w0 w'
theorem Only.refl (g : Nat) (w : World) : Only g w w := ⟨rfl, fun _ _ => rfl, fun _ _ _ h => h⟩
theorem Only.trans {g : Nat} {a b c : World} (h : Only g a b) (h2 : Only g b c) : Only g a c :=
  ⟨h2.size.trans h.size, fun k hk => (h2.block k hk).trans (h.block k hk), fun B w0 hB hb => h2.below B w0 hB (h.below B w0 hB hb)⟩
theorem Only.drew {g : Nat} {a b : World} (h : Only g a b) : Only g a b.drew := ⟨h.size, h.block, fun B w0 hB hb => (h.below B w0 hB hb).drew⟩
theorem Only.setCell {g : Nat} {a b : World} (h : Only g a b) (i : Nat) (u : Value) : Only g a (b.setCell ⟨g, i, none⟩ u) :=
  ⟨by rw [← h.size]; simp, fun k hk => (heap_setCell_other b ⟨g, i, none⟩ k u hk).trans (h.block k hk), fun B w0 hB hb => (h.below B w0 hB hb).setCell hB _⟩
theorem Only.has {g : Nat} {w w' : World} (h : Only g w w') {k : Nat} {t : TypeId} {cs : Array Value} (hk : Has w k t cs) (hne : k ≠ g) : Has w' k t cs := (h.block k hne).trans hk
set_option maxHeartbeats 2000000 in
theorem quarterAt_any (l : List UInt32) (hl : l.length = 16) (g a b c d : Nat) (ha : a < 16) (hb : b < 16) (hc : c < 16) (hd : d < 16) (w : World) (h : Has w g 50 (ws l)) :
    Calls Try.prog 55 #[.int .i64 (a : Int), .int .i64 (b : Int), .int .i64 (c : Int), .int .i64 (d : Int), .pointer (some ⟨g, 0, none⟩)] w
      fun e w' => e = .returned (.tuple #[]) ∧ Has w' g 50 (ws (q4 l a b c d)) ∧ Only g w w' := by
  have c1 := h.drew.word a (by omega)
  have c2 := h.drew.word b (by omega)
  have c3 := h.drew.word c (by omega)
  have c4 := h.drew.word d (by omega)
  have hq4 : q4 l a b c d = (((l.set a (qr (l.getD a 0) (l.getD b 0) (l.getD c 0) (l.getD d 0)).a).set b (qr (l.getD a 0) (l.getD b 0) (l.getD c 0) (l.getD d 0)).b).set c (qr (l.getD a 0) (l.getD b 0) (l.getD c 0) (l.getD d 0)).c).set d (qr (l.getD a 0) (l.getD b 0) (l.getD c 0) (l.getD d 0)).d := rfl
  rw [hq4]
  clear hq4
  generalize l.getD a 0 = x1 at c1 ⊢
  generalize l.getD b 0 = x2 at c2 ⊢
  generalize l.getD c 0 = x3 at c3 ⊢
  generalize l.getD d 0 = x4 at c4 ⊢
  have hq := quarter_any x1 x2 x3 x4 w.drew
  generalize (qr x1 x2 x3 x4).a = y1 at hq ⊢
  generalize (qr x1 x2 x3 x4).b = y2 at hq ⊢
  generalize (qr x1 x2 x3 x4).c = y3 at hq ⊢
  generalize (qr x1 x2 x3 x4).d = y4 at hq ⊢
  have ja : ¬ ((16 : Int) ≤ (a : Int)) := by omega
  have jb : ¬ ((16 : Int) ≤ (b : Int)) := by omega
  have jc : ¬ ((16 : Int) ≤ (c : Int)) := by omega
  have jd : ¬ ((16 : Int) ≤ (d : Int)) := by omega
  have HQ := Lib.hid hq
  have HH := Lib.hid h
  have HL := Lib.hid hl
  clear hq h hl
  go_enter Try.func55, Try.ntmps55
  go_wp2_with fail
  refine wp_region_noPanic ?_
  refine wp_region_gate (c := 16) (S := fun w' => w'.cell? ⟨g, a, none⟩ = some (W32 x1) ∧ w'.cell? ⟨g, b, none⟩ = some (W32 x2) ∧ w'.cell? ⟨g, c, none⟩ = some (W32 x3) ∧ w'.cell? ⟨g, d, none⟩ = some (W32 x4)) (by kernel_rfl) ⟨c1, c2, c3, c4⟩ (fun hS => ?_)
  clear c1 c2 c3 c4
  refine takeP hS 0 10 (.int .i64 (a : Int)) _ rfl (by kernel_rfl) (by kernel_rfl) (by kernel_rfl) rfl (fun _ _ _ h => h) rfl rfl (fun w' => by go_simp) ?_
  simp only [Act.put, List.setIfInBounds_toArray, List.set_cons_zero, List.set_cons_succ]
  refine takeP hS 1 11 (.int .i64 (b : Int)) _ rfl (by kernel_rfl) (by kernel_rfl) (by kernel_rfl) rfl (fun _ _ _ h => h) rfl rfl (fun w' => by go_simp) ?_
  simp only [Act.put, List.setIfInBounds_toArray, List.set_cons_zero, List.set_cons_succ]
  refine takeP hS 2 12 (.int .i64 (c : Int)) _ rfl (by kernel_rfl) (by kernel_rfl) (by kernel_rfl) rfl (fun _ _ _ h => h) rfl rfl (fun w' => by go_simp) ?_
  simp only [Act.put, List.setIfInBounds_toArray, List.set_cons_zero, List.set_cons_succ]
  refine takeP hS 3 13 (.int .i64 (d : Int)) _ rfl (by kernel_rfl) (by kernel_rfl) (by kernel_rfl) rfl (fun _ _ _ h => h) rfl rfl (fun w' => by go_simp) ?_
  simp only [Act.put, List.setIfInBounds_toArray, List.set_cons_zero, List.set_cons_succ]
  refine takeP hS 4 14 (.int .i64 (a : Int)) _ rfl (by kernel_rfl) (by kernel_rfl) (by kernel_rfl) rfl (fun _ _ _ h => h) rfl rfl (fun w' => by go_simp) ?_
  simp only [Act.put, List.setIfInBounds_toArray, List.set_cons_zero, List.set_cons_succ]
  refine takeP hS 5 15 (.pointer (some ⟨g, a, none⟩)) _ rfl (by kernel_rfl) (by kernel_rfl) (by kernel_rfl) rfl (fun _ _ _ h => h) rfl rfl (fun w' => by go_simp) ?_
  simp only [Act.put, List.setIfInBounds_toArray, List.set_cons_zero, List.set_cons_succ]
  refine takeG hS 6 16 (W32 x1) _ rfl (by kernel_rfl) (by kernel_rfl) (by kernel_rfl) (by kernel_rfl) (fun _ _ _ h => h) rfl rfl (fun w' h => by obtain ⟨k1, k2, k3, k4⟩ := h; go_simp) ?_
  simp only [Act.put, List.setIfInBounds_toArray, List.set_cons_zero, List.set_cons_succ]
  refine takeP hS 7 17 (.int .i64 (b : Int)) _ rfl (by kernel_rfl) (by kernel_rfl) (by kernel_rfl) rfl (fun _ _ _ h => h) rfl rfl (fun w' => by go_simp) ?_
  simp only [Act.put, List.setIfInBounds_toArray, List.set_cons_zero, List.set_cons_succ]
  refine takeP hS 8 18 (.pointer (some ⟨g, b, none⟩)) _ rfl (by kernel_rfl) (by kernel_rfl) (by kernel_rfl) rfl (fun _ _ _ h => h) rfl rfl (fun w' => by go_simp) ?_
  simp only [Act.put, List.setIfInBounds_toArray, List.set_cons_zero, List.set_cons_succ]
  refine takeG hS 9 19 (W32 x2) _ rfl (by kernel_rfl) (by kernel_rfl) (by kernel_rfl) (by kernel_rfl) (fun _ _ _ h => h) rfl rfl (fun w' h => by obtain ⟨k1, k2, k3, k4⟩ := h; go_simp) ?_
  simp only [Act.put, List.setIfInBounds_toArray, List.set_cons_zero, List.set_cons_succ]
  refine takeP hS 10 20 (.int .i64 (c : Int)) _ rfl (by kernel_rfl) (by kernel_rfl) (by kernel_rfl) rfl (fun _ _ _ h => h) rfl rfl (fun w' => by go_simp) ?_
  simp only [Act.put, List.setIfInBounds_toArray, List.set_cons_zero, List.set_cons_succ]
  refine takeP hS 11 21 (.pointer (some ⟨g, c, none⟩)) _ rfl (by kernel_rfl) (by kernel_rfl) (by kernel_rfl) rfl (fun _ _ _ h => h) rfl rfl (fun w' => by go_simp) ?_
  simp only [Act.put, List.setIfInBounds_toArray, List.set_cons_zero, List.set_cons_succ]
  refine takeG hS 12 22 (W32 x3) _ rfl (by kernel_rfl) (by kernel_rfl) (by kernel_rfl) (by kernel_rfl) (fun _ _ _ h => h) rfl rfl (fun w' h => by obtain ⟨k1, k2, k3, k4⟩ := h; go_simp) ?_
  simp only [Act.put, List.setIfInBounds_toArray, List.set_cons_zero, List.set_cons_succ]
  refine takeP hS 13 23 (.int .i64 (d : Int)) _ rfl (by kernel_rfl) (by kernel_rfl) (by kernel_rfl) rfl (fun _ _ _ h => h) rfl rfl (fun w' => by go_simp) ?_
  simp only [Act.put, List.setIfInBounds_toArray, List.set_cons_zero, List.set_cons_succ]
  refine takeP hS 14 24 (.pointer (some ⟨g, d, none⟩)) _ rfl (by kernel_rfl) (by kernel_rfl) (by kernel_rfl) rfl (fun _ _ _ h => h) rfl rfl (fun w' => by go_simp) ?_
  simp only [Act.put, List.setIfInBounds_toArray, List.set_cons_zero, List.set_cons_succ]
  refine takeG hS 15 25 (W32 x4) _ rfl (by kernel_rfl) (by kernel_rfl) (by kernel_rfl) (by kernel_rfl) (fun _ _ _ h => h) rfl rfl (fun w' h => by obtain ⟨k1, k2, k3, k4⟩ := h; go_simp) ?_
  simp only [Act.put, List.setIfInBounds_toArray, List.set_cons_zero, List.set_cons_succ]
  refine gateCall 26 56 #[W32 x1, W32 x2, W32 x3, W32 x4] _ (by kernel_rfl) rfl rfl rfl (by go_simp) HQ.out ?_
  rintro e w1 ⟨rfl, rfl⟩
  refine ⟨_, rfl, ?_⟩
  simp only [Act.put, List.setIfInBounds_toArray, List.set_cons_zero, List.set_cons_succ]
  clear hS
  have E : Has w.drew g 50 (ws l) ∧ Only g w w.drew := ⟨HH.out.drew, (Only.refl g w).drew⟩
  have L := HL.out
  generalize w.drew = w1 at E ⊢
  refine take0 17 9 (.tuple #[W32 y1, W32 y2, W32 y3, W32 y4]) _ rfl (by kernel_rfl) (by kernel_rfl) (by kernel_rfl) (fun _ _ _ h => h) rfl rfl (fun w' => by go_simp) ?_
  simp only [Act.put, List.setIfInBounds_toArray, List.set_cons_zero, List.set_cons_succ]
  refine take0 18 27 (W32 y1) _ rfl (by kernel_rfl) (by kernel_rfl) (by kernel_rfl) (fun _ _ _ h => h) rfl rfl (fun w' => by go_simp) ?_
  simp only [Act.put, List.setIfInBounds_toArray, List.set_cons_zero, List.set_cons_succ]
  refine take0 19 28 (W32 y2) _ rfl (by kernel_rfl) (by kernel_rfl) (by kernel_rfl) (fun _ _ _ h => h) rfl rfl (fun w' => by go_simp) ?_
  simp only [Act.put, List.setIfInBounds_toArray, List.set_cons_zero, List.set_cons_succ]
  refine take0 20 29 (W32 y3) _ rfl (by kernel_rfl) (by kernel_rfl) (by kernel_rfl) (fun _ _ _ h => h) rfl rfl (fun w' => by go_simp) ?_
  simp only [Act.put, List.setIfInBounds_toArray, List.set_cons_zero, List.set_cons_succ]
  refine take0 21 30 (W32 y4) _ rfl (by kernel_rfl) (by kernel_rfl) (by kernel_rfl) (fun _ _ _ h => h) rfl rfl (fun w' => by go_simp) ?_
  simp only [Act.put, List.setIfInBounds_toArray, List.set_cons_zero, List.set_cons_succ]
  refine take0 22 31 (.pointer (some ⟨g, a, none⟩)) _ rfl (by kernel_rfl) (by kernel_rfl) (by kernel_rfl) (fun _ _ _ h => h) rfl rfl (fun w' => by go_simp) ?_
  simp only [Act.put, List.setIfInBounds_toArray, List.set_cons_zero, List.set_cons_succ]
  have cc := E.1.word a (by simp only [L]; omega)
  have ff := E.1.frozen a
  refine only0 23 (w1.setCell ⟨g, a, none⟩ (W32 y1)) _ (by kernel_rfl) rfl rfl rfl (by go_simp) ?_
  clear cc ff
  replace E : Has (w1.setCell ⟨g, a, none⟩ (W32 y1)) g 50 (ws (l.set a y1)) ∧ Only g w (w1.setCell ⟨g, a, none⟩ (W32 y1)) := ⟨E.1.setW a y1, E.2.setCell a _⟩
  generalize w1.setCell ⟨g, a, none⟩ (W32 y1) = w2 at E ⊢
  clear w1
  simp only [Act.put]
  refine take0 24 32 (.pointer (some ⟨g, b, none⟩)) _ rfl (by kernel_rfl) (by kernel_rfl) (by kernel_rfl) (fun _ _ _ h => h) rfl rfl (fun w' => by go_simp) ?_
  simp only [Act.put, List.setIfInBounds_toArray, List.set_cons_zero, List.set_cons_succ]
  have cc := E.1.word b (by simp only [List.length_set, L]; omega)
  have ff := E.1.frozen b
  refine only0 25 (w2.setCell ⟨g, b, none⟩ (W32 y2)) _ (by kernel_rfl) rfl rfl rfl (by go_simp) ?_
  clear cc ff
  replace E : Has (w2.setCell ⟨g, b, none⟩ (W32 y2)) g 50 (ws ((l.set a y1).set b y2)) ∧ Only g w (w2.setCell ⟨g, b, none⟩ (W32 y2)) := ⟨E.1.setW b y2, E.2.setCell b _⟩
  generalize w2.setCell ⟨g, b, none⟩ (W32 y2) = w3 at E ⊢
  clear w2
  simp only [Act.put]
  refine take0 26 33 (.pointer (some ⟨g, c, none⟩)) _ rfl (by kernel_rfl) (by kernel_rfl) (by kernel_rfl) (fun _ _ _ h => h) rfl rfl (fun w' => by go_simp) ?_
  simp only [Act.put, List.setIfInBounds_toArray, List.set_cons_zero, List.set_cons_succ]
  have cc := E.1.word c (by simp only [List.length_set, L]; omega)
  have ff := E.1.frozen c
  refine only0 27 (w3.setCell ⟨g, c, none⟩ (W32 y3)) _ (by kernel_rfl) rfl rfl rfl (by go_simp) ?_
  clear cc ff
  replace E : Has (w3.setCell ⟨g, c, none⟩ (W32 y3)) g 50 (ws (((l.set a y1).set b y2).set c y3)) ∧ Only g w (w3.setCell ⟨g, c, none⟩ (W32 y3)) := ⟨E.1.setW c y3, E.2.setCell c _⟩
  generalize w3.setCell ⟨g, c, none⟩ (W32 y3) = w4 at E ⊢
  clear w3
  simp only [Act.put]
  refine take0 28 34 (.pointer (some ⟨g, d, none⟩)) _ rfl (by kernel_rfl) (by kernel_rfl) (by kernel_rfl) (fun _ _ _ h => h) rfl rfl (fun w' => by go_simp) ?_
  simp only [Act.put, List.setIfInBounds_toArray, List.set_cons_zero, List.set_cons_succ]
  have cc := E.1.word d (by simp only [List.length_set, L]; omega)
  have ff := E.1.frozen d
  refine only0 29 (w4.setCell ⟨g, d, none⟩ (W32 y4)) _ (by kernel_rfl) rfl rfl rfl (by go_simp) ?_
  clear cc ff
  replace E : Has (w4.setCell ⟨g, d, none⟩ (W32 y4)) g 50 (ws ((((l.set a y1).set b y2).set c y3).set d y4)) ∧ Only g w (w4.setCell ⟨g, d, none⟩ (W32 y4)) := ⟨E.1.setW d y4, E.2.setCell d _⟩
  generalize w4.setCell ⟨g, d, none⟩ (W32 y4) = w5 at E ⊢
  clear w4
  simp only [Act.put]
  refine wpAny_end (by kernel_rfl) ?_ _
  refine NoPanic.normal ?_
  go_wp2
  go_end0
  exact ⟨rfl, E⟩
end Go.Proofs.Ytfhjokbbaoldiaa

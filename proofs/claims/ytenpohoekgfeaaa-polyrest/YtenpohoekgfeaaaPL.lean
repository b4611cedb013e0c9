/- The walk of law PolyLess. -/
import Derived.Test.YtenpohoekgfeaaaPK
import Derived.OpenShut
namespace Go.Proofs.Ytenpohoekgfeaaa
open Go.RowKit
/-- what memory holds in the midst of the law -/
def LEnv (w : World) (l : List Nat) (W : World) : Prop := Has W w.heap.size 30 (us l) ∧ Below w.heap.size w W
theorem LEnv.step {w : World} {l : List Nat} {W W' : World} (h : LEnv w l W) (hb : Below W.heap.size W W') : LEnv w l W' := ⟨h.1.below hb h.1.lt, h.2.trans (hb.mono h.2.size)⟩
theorem less_facts (N : Nat) :
    ¬ (18446744073709551611 ≤ N % 1361129467683753853853498429727072845819 % 18446744073709551616 ∧ N % 1361129467683753853853498429727072845819 / 18446744073709551616 % 18446744073709551616 = 18446744073709551615 ∧ N % 1361129467683753853853498429727072845819 / 18446744073709551616 / 18446744073709551616 % 18446744073709551616 = 3) ∧ N % 1361129467683753853853498429727072845819 / 18446744073709551616 / 18446744073709551616 % 18446744073709551616 < 4 := by
  have h : N % 1361129467683753853853498429727072845819 < 1361129467683753853853498429727072845819 := Nat.mod_lt _ (by omega)
  generalize N % 1361129467683753853853498429727072845819 = X at h
  refine ⟨fun ⟨h1, h2, h3⟩ => ?_, ?_⟩
  · have e : X = 18446744073709551616 * (18446744073709551616 * (X / 18446744073709551616 / 18446744073709551616) + X / 18446744073709551616 % 18446744073709551616) + X % 18446744073709551616 := by rw [Nat.div_add_mod, Nat.div_add_mod]
    have h4 : X / 18446744073709551616 / 18446744073709551616 % 18446744073709551616 = X / 18446744073709551616 / 18446744073709551616 := Nat.mod_eq_of_lt (by omega)
    omega
  · omega
set_option maxHeartbeats 1000000 in
theorem less_all (x0 x1 x2 : Nat) (ha : ¬ (18446744073709551611 ≤ x0 ∧ x1 = 18446744073709551615 ∧ x2 = 3)) : (x0 < 18446744073709551611) ∨ (18446744073709551611 ≤ x0 ∧ x1 ≠ 18446744073709551615) ∨ (18446744073709551611 ≤ x0 ∧ x1 = 18446744073709551615 ∧ x2 ≠ 3) := by
  omega
theorem dg3_inj {a b : Nat} (ha : a < 6277101735386680763835789423207666416102355444464034512896) (hb : b < 6277101735386680763835789423207666416102355444464034512896) (h : dg 18446744073709551616 a 3 = dg 18446744073709551616 b 3) : a = b := by
  have h2 := congrArg (num 18446744073709551616) h
  have e : (18446744073709551616 : Nat) ^ 3 = 6277101735386680763835789423207666416102355444464034512896 := by decide
  rw [num_dg, num_dg, e, Nat.mod_eq_of_lt ha, Nat.mod_eq_of_lt hb] at h2
  exact h2
theorem less_two (M : Nat) (hM : M < 1361129467683753853853498429727072845824) : (M < 1361129467683753853853498429727072845819 ∧ dg 18446744073709551616 (M % 1361129467683753853853498429727072845819) 3 = dg 18446744073709551616 M 3) ∨ (1361129467683753853853498429727072845819 ≤ M ∧ dg 18446744073709551616 (M % 1361129467683753853853498429727072845819) 3 ≠ dg 18446744073709551616 M 3 ∧ us (dg 18446744073709551616 (M % 1361129467683753853853498429727072845819) 3) = #[U64 (M - 1361129467683753853853498429727072845819), .int .u64 0, .int .u64 0] ∧ IntKind.u64.wrap (((M % 18446744073709551616 : Nat) : Int) - 18446744073709551611) = ((M - 1361129467683753853853498429727072845819 : Nat) : Int)) := by
  rcases Nat.lt_or_ge M 1361129467683753853853498429727072845819 with h | h
  · left
    exact ⟨h, by rw [Nat.mod_eq_of_lt h]⟩
  · right
    have e : M % 1361129467683753853853498429727072845819 = M - 1361129467683753853853498429727072845819 := mod_by (k := 1) (by omega) (by omega)
    refine ⟨h, ?_, by rw [e]; exact us_word _ (by omega), ?_⟩
    · intro hc
      have := dg3_inj (by omega) (by omega) hc
      omega
    · rw [IntKind.wrap_u64]
      omega
set_option maxHeartbeats 1000000 in
theorem lessLaw_any (l : List Nat) (hl : l.length = 3) (hd : Dig 18446744073709551616 l) (w : World) :
    Calls Try.prog 8 #[.agg (us l)] w fun e w' => e = .returned (.bool true) ∧ Below w.heap.size w w' := by
  obtain ⟨N, hN⟩ : ∃ N, N = num 18446744073709551616 l := ⟨_, rfl⟩
  have hlt := num_lt 18446744073709551616 l hd
  rw [hl, ← hN] at hlt
  have hlt2 : N < 6277101735386680763835789423207666416102355444464034512896 := hlt
  have hdg : l = dg 18446744073709551616 N 3 := by rw [hN, ← hl, dg_num 18446744073709551616 l hd]
  obtain ⟨hna, h4⟩ := less_facts N
  have hR1 := rest_any N hlt2
  rw [us3 (N % 1361129467683753853853498429727072845819)] at hR1
  have hM : N % 1361129467683753853853498429727072845824 < 1361129467683753853853498429727072845824 := Nat.mod_lt _ (by omega)
  have hR2 := rest_any (N % 1361129467683753853853498429727072845824) (by omega)
  have hlo := low130 N
  have hus := us3 N
  rw [← hdg] at hR1 hus
  have hc2 : N / 18446744073709551616 / 18446744073709551616 % 18446744073709551616 < 18446744073709551616 := Nat.mod_lt _ (by omega)
  have hm := and3 _ hc2
  have h0 : N % 1361129467683753853853498429727072845824 % 18446744073709551616 = N % 18446744073709551616 := by omega
  generalize hMM : N % 1361129467683753853853498429727072845824 = M at hM hR2 hlo h0
  have hy := less_two M hM
  rw [h0] at hy
  generalize N % 1361129467683753853853498429727072845819 % 18446744073709551616 = x0 at hna h4 hR1
  generalize N % 1361129467683753853853498429727072845819 / 18446744073709551616 % 18446744073709551616 = x1 at hna h4 hR1
  generalize N % 1361129467683753853853498429727072845819 / 18446744073709551616 / 18446744073709551616 % 18446744073709551616 = x2 at hna h4 hR1
  generalize N % 18446744073709551616 = b0 at hlo hus hy
  generalize N / 18446744073709551616 % 18446744073709551616 = b1 at hlo hus
  generalize N / 18446744073709551616 / 18446744073709551616 % 18446744073709551616 = b2 at hlo hus hm
  generalize b2 % 4 = b3 at hlo hm
  have ly : (dg 18446744073709551616 (M % 1361129467683753853853498429727072845819) 3).length = 3 := dg_length _ _ _
  have lm : (dg 18446744073709551616 M 3).length = 3 := dg_length _ _ _
  have hq := eq3 (dg 18446744073709551616 (M % 1361129467683753853853498429727072845819) 3) (dg 18446744073709551616 M 3) ly lm
  have hlm : us (dg 18446744073709551616 M 3) = us [b0, b1, b3] := hlo
  have hlu : us l = us [b0, b1, b2] := hus
  have HQ := Lib.hid hq
  have HY := Lib.hid hy
  have HLY := Lib.hid ly
  have HR1 := Lib.hid hR1
  have HR2 := Lib.hid hR2
  have HLM := Lib.hid hlm
  have HLL := Lib.hid hl
  have HNA := Lib.hid (less_all x0 x1 x2 hna)
  have hq2 : ∀ v, us (dg 18446744073709551616 (M % 1361129467683753853853498429727072845819) 3) = #[U64 v, .int .u64 0, .int .u64 0] → ∀ w, (Op.equalIn 10000 30 (.agg (us (dg 18446744073709551616 (M % 1361129467683753853853498429727072845819) 3))) (.agg #[U64 v, .int .u64 0, .int .u64 0])).run Try.prog w = .ok true w := fun v hv w => by
    rw [← hv, eq3 _ _ ly ly, beq_self_eq_true]
  have HQ2 := Lib.hid hq2
  have HLU := Lib.hid hlu
  generalize hY : dg 18446744073709551616 (M % 1361129467683753853853498429727072845819) 3 = y at HQ HY HLY HR2 HQ2
  generalize hD : dg 18446744073709551616 M 3 = md at HQ HY HLM HR2
  clear hq hq2 hy ly lm hR1 hR2 hlo hus hlm hlu hl hd hN hlt hlt2 hdg hna hM h0 hMM hc2 hY hD
  have E : LEnv w l (w.alloc (.cells (us l) 30)) := ⟨Has.fresh w 30 _, (Below.refl _ _).alloc (Nat.le_refl _) _⟩
  go_enter Try.func8, Try.ntmps8
  go_upto_region 1 with fail
  change Code.wp _ _ _ _ (w.alloc (.cells (us l) 30))
  generalize w.alloc (.cells (us l) 30) = w0 at E ⊢
  go_wp2_with fail
  go_at_call 9
  refine (awake4_any _).mono ?_
  rintro e w1 ⟨rfl, hb1⟩
  replace E := E.step hb1
  clear hb1 w0
  have i1 := E.1
  go_wp2_with (refine wpList_load_row rfl 30 (.tmp 1) rfl w.heap.size rfl 30 (us l) (0, 0) _ i1 Try.underlying30 rfl (info3 l HLL.out) ?_)
  go_at_call 12
  refine (HR1.out _).mono ?_
  rintro e w2 ⟨rfl, hb1⟩
  replace E := E.step hb1
  clear hb1 w1 i1
  go_upto_region 4 with fail
  have hg3 : w.heap.size < w2.heap.size := E.1.lt
  have i3 : Has (w2.alloc (.cells (us [x0, x1, x2]) 30)) w2.heap.size 30 (us [x0, x1, x2]) := Has.fresh w2 30 _
  replace E := E.step ((Below.refl _ _).alloc (Nat.le_refl _) (.cells (us [x0, x1, x2]) 30))
  change Code.wp _ _ _ _ (w2.alloc (.cells (us [x0, x1, x2]) 30))
  generalize w2.alloc (.cells (us [x0, x1, x2]) 30) = w3 at i3 E ⊢
  generalize w2.heap.size = g3 at hg3 i3 ⊢
  clear w2 HR1
  go_cut [4] (fun z wx => z = .bool false ∧ Has wx g3 30 (us [x0, x1, x2]) ∧ LEnv w l wx)
  case first =>
    have c0 : w3.cell? ⟨g3, 0, none⟩ = some (U64 x0) := i3.u64 0 (by simp)
    have c1 : w3.cell? ⟨g3, 1, none⟩ = some (U64 x1) := i3.u64 1 (by simp)
    have c2 : w3.cell? ⟨g3, 2, none⟩ = some (U64 x2) := i3.u64 2 (by simp)
    rcases HNA.out with h | ⟨h, h2⟩ | ⟨h, h2, h3⟩
    · have h1 : ¬ ((18446744073709551611 : Int) ≤ (x0 : Int)) := by omega
      go_wp2_with fail
      go_meet
      exact ⟨rfl, i3, E⟩
    · have h1 : (18446744073709551611 : Int) ≤ (x0 : Int) := by omega
      have h5 : ¬ ((x1 : Int) = 18446744073709551615) := by omega
      go_wp2_with fail
      go_meet
      exact ⟨rfl, i3, E⟩
    · have h1 : (18446744073709551611 : Int) ≤ (x0 : Int) := by omega
      have h5 : (x1 : Int) = 18446744073709551615 := by omega
      have h6 : ((x2 : Int) == 3) = false := by simp; omega
      go_wp2_with fail
      go_meet
      exact ⟨rfl, i3, E⟩
  case rest =>
    clear i3 E w3 HNA
    obtain ⟨rfl, i3, E⟩ := hcut
    rw [show LEnv w l wc = (Has wc w.heap.size 30 (us l) ∧ Below w.heap.size w wc) from rfl, HLU.out] at E
    have c2 : wc.cell? ⟨w.heap.size, 2, none⟩ = some (U64 b2) := E.1.u64 2 (by simp)
    have f2 := E.1.frozen 2
    have j3 := i3.other (p := ⟨w.heap.size, 2, none⟩) (by show g3 ≠ w.heap.size; omega) (U64 b3)
    have j1 : Has (wc.setCell ⟨w.heap.size, 2, none⟩ (U64 b3)) w.heap.size 30 (us [b0, b1, b3]) := E.1.setU 2 b3
    have jb := E.2.setCell (p := ⟨w.heap.size, 2, none⟩) (Nat.le_refl _) (U64 b3)
    have j0 : (wc.setCell ⟨w.heap.size, 2, none⟩ (U64 b3)).cell? ⟨w.heap.size, 0, none⟩ = some (U64 b0) := j1.u64 0 (by simp)
    rw [← HLM.out] at j1
    have lmd : md.length = 3 := by have := congrArg Array.size HLM.out; simpa [us_size] using this
    have E2 : LEnv w md (wc.setCell ⟨w.heap.size, 2, none⟩ (U64 b3)) := ⟨j1, jb⟩
    go_upto_region 6 with fail
    change Code.wp _ _ _ _ (wc.setCell ⟨w.heap.size, 2, none⟩ (U64 b3))
    generalize wc.setCell ⟨w.heap.size, 2, none⟩ (U64 b3) = w4 at j3 j1 j0 E2 ⊢
    clear c2 f2 jb hm i3 E
    have HLD := Lib.hid lmd
    clear lmd
    go_wp2_with (refine wpList_load_row rfl 30 (.tmp 1) rfl w.heap.size rfl 30 (us md) (0, 0) _ j1 Try.underlying30 rfl (info3 md HLD.out) ?_)
    go_at_call 12
    refine (HR2.out _).mono ?_
    rintro e w5 ⟨rfl, hb1⟩
    replace E2 := E2.step hb1
    replace j3 := j3.below hb1 j3.lt
    have k0 : w5.cell? ⟨w.heap.size, 0, none⟩ = some (U64 b0) := (hb1.cell (p := ⟨w.heap.size, 0, none⟩) j1.lt).trans j0
    clear hb1 j1 j0 HR2
    have i5 : Has (w5.alloc (.cells z3 30)) w5.heap.size 30 z3 := Has.fresh w5 30 _
    have hg5 : w.heap.size < w5.heap.size ∧ g3 < w5.heap.size := ⟨E2.1.lt, j3.lt⟩
    have k0' : (w5.alloc (.cells z3 30)).cell? ⟨w.heap.size, 0, none⟩ = some (U64 b0) := (((Below.refl w5.heap.size w5).alloc (Nat.le_refl _) (.cells z3 30)).cell (p := ⟨w.heap.size, 0, none⟩) hg5.1).trans k0
    go_upto_region 7 with (refine wpList_store_row rfl 30 (.tmp 5) (.tmp 29) rfl w5.heap.size (us y) rfl rfl 30 z3 i5 (info3 y HLY.out) (z3_size y HLY.out) (us_one y) ?_)
    change Code.wp _ _ _ _ ((w5.alloc (.cells z3 30)).setRow w5.heap.size (us y))
    replace i5 := i5.setRow (us y)
    replace j3 := (j3.alloc (.cells z3 30)).setRow_other (g' := w5.heap.size) (by omega) (us y)
    have i1 := (E2.1.alloc (.cells z3 30)).setRow_other (g' := w5.heap.size) (by omega) (us y)
    have hb := below_setRow (E2.2.alloc E2.2.size (.cells z3 30)) (g := w5.heap.size) (by omega) (us y)
    have k1 : ((w5.alloc (.cells z3 30)).setRow w5.heap.size (us y)).cell? ⟨w.heap.size, 0, none⟩ = some (U64 b0) := by
      rw [i1.cell 0, ← k0', (E2.1.alloc (.cells z3 30)).cell 0]
    generalize (w5.alloc (.cells z3 30)).setRow w5.heap.size (us y) = w6 at i5 j3 i1 hb k1 ⊢
    generalize w5.heap.size = g5 at hg5 i5 ⊢
    clear k0 k0' E2 w5
    have c2 : w6.cell? ⟨g3, 2, none⟩ = some (U64 x2) := j3.u64 2 (by simp)
    have h4i : (x2 : Int) < 4 := by omega
    have hq := HQ.out
    rcases HY.out with ⟨_, hy⟩ | ⟨_, hy, hu, hwr⟩
    · rw [hy, beq_self_eq_true] at hq
      subst hy
      have HQQ := Lib.hid hq
      clear HY HQ2 HQ hq
      go_upto_region 8 with (first
        | (refine wpList_load_row rfl 30 (.tmp 5) rfl g5 rfl 30 (us y) (0, 0) _ i5 Try.underlying30 rfl (info3 y HLY.out) ?_)
        | (refine wpList_load_row rfl 30 (.tmp 1) rfl w.heap.size rfl 30 (us y) (0, 0) _ i1 Try.underlying30 rfl (info3 y HLY.out) ?_)
        | (refine wpList_exec rfl (.bool true) (exec_eq3 (.tmp 30) (.tmp 31) _ _ _ rfl rfl rfl HQQ.out) ?_))
      go_wp2
      go_ret
      exact ⟨rfl, hb⟩
    · rw [show (y == md) = false from by simpa using hy] at hq
      have hq2 := HQ2.out _ hu
      clear HY HQ2 HQ hu
      generalize M - 1361129467683753853853498429727072845819 = v at hwr hq2
      have HQQ := Lib.hid hq
      have HQ3 := Lib.hid hq2
      clear hq hq2
      go_wp2_with (first
        | (refine wpList_load_row rfl 30 (.tmp 5) rfl g5 rfl 30 (us y) (0, 0) _ i5 Try.underlying30 rfl (info3 y HLY.out) ?_)
        | (refine wpList_load_row rfl 30 (.tmp 1) rfl w.heap.size rfl 30 (us md) (0, 0) _ i1 Try.underlying30 rfl (info3 md HLD.out) ?_)
        | (refine wpList_load_rowG rfl 30 (.tmp 5) rfl g5 rfl 30 (us y) (0, 0) _ i5 Try.underlying30 rfl (info3 y HLY.out) ?_)
        | (refine wpList_exec rfl (.bool false) (exec_eq3 (.tmp 30) (.tmp 31) _ _ _ rfl rfl rfl HQQ.out) ?_)
        | (refine wpList_execG rfl (.bool true) (exec_eq3 (.tmp 43) (.tmp 47) _ _ _ rfl rfl rfl HQ3.out) ?_))
      go_ret
      exact ⟨rfl, hb⟩
end Go.Proofs.Ytenpohoekgfeaaa

/- The walk of law PolyRest. -/
import Derived.Test.YtenpohoekgfeaaaPK
import Derived.Test.YtenpohoekgfeaaaPL
import Derived.Test.YtenpohoekgfeaaaIE
namespace Go.Proofs.Ytenpohoekgfeaaa
open Go.RowKit
/-- what memory holds in the midst of the law -/
def REnv (w : World) (g3 : Nat) (l xs : List Nat) (W : World) : Prop := Has W w.heap.size 30 (us l) ∧ Has W g3 30 (us xs) ∧ Below w.heap.size w W
theorem REnv.step {w : World} {g3 : Nat} {l xs : List Nat} {W W' : World} (h : REnv w g3 l xs W) (hb : Below W.heap.size W W') : REnv w g3 l xs W' :=
  ⟨h.1.below hb h.1.lt, h.2.1.below hb h.2.1.lt, h.2.2.trans (hb.mono h.2.2.size)⟩
theorem REnv.drew {w : World} {g3 : Nat} {l xs : List Nat} {W : World} (h : REnv w g3 l xs W) : REnv w g3 l xs W.drew := ⟨h.1, h.2.1, h.2.2.drew⟩
theorem Rd.drew {B : Nat} {W : World} {v : Value} {l : List Nat} (h : Rd B W v l) : Rd B W.drew v l := h
theorem rest_top (X i : Nat) (h : X < 1361129467683753853853498429727072845819) (hi : 17 ≤ i) : X / 256 ^ i % 256 = 0 := by
  have h1 : (256 : Nat) ^ 17 ≤ 256 ^ i := Nat.pow_le_pow_right (by omega) hi
  have h2 : (256 : Nat) ^ 17 = 87112285931760246646623899502532662132736 := by decide
  rw [Nat.div_eq_of_lt (by omega)]
set_option maxHeartbeats 1000000 in
theorem restLaw_any (l : List Nat) (hl : l.length = 3) (hd : Dig 18446744073709551616 l) (w : World) :
    Calls Try.prog 4 #[.agg (us l)] w fun e w' => e = .returned (.bool true) ∧ Below w.heap.size w w' := by
  obtain ⟨N, hN⟩ : ∃ N, N = num 18446744073709551616 l := ⟨_, rfl⟩
  have hlt := num_lt 18446744073709551616 l hd
  rw [hl, ← hN] at hlt
  have hlt2 : N < 6277101735386680763835789423207666416102355444464034512896 := hlt
  have hdg : l = dg 18446744073709551616 N 3 := by rw [hN, ← hl, dg_num 18446744073709551616 l hd]
  obtain ⟨X, hX⟩ : ∃ X, X = N % 1361129467683753853853498429727072845819 := ⟨_, rfl⟩
  have hXl : X < 1361129467683753853853498429727072845819 := by rw [hX]; exact Nat.mod_lt _ (by omega)
  have hR1 := rest_any N hlt2
  have hR2 := rest_any X (by omega)
  rw [Nat.mod_eq_of_lt hXl] at hR2
  rw [← hX, ← hdg] at hR1
  have hB1 := lawBytes_any N
  rw [← hdg] at hB1
  have hB2 := lawBytes_any X
  have lx : (dg 18446744073709551616 X 3).length = 3 := dg_length _ _ _
  have hq := eq3 _ _ lx lx
  rw [beq_self_eq_true] at hq
  have hnum : num 256 (dg 256 N 24) = N := by rw [num_dg, Nat.mod_eq_of_lt]; exact Nat.lt_of_lt_of_le hlt2 (by decide)
  have hRef := fun (va : Value) (W : World) (h : Rd W.heap.size W va (dg 256 N 24)) => refRest_any (dg 256 N 24) (dg_dig _ _ _ (by omega)) (by rw [dg_length]; omega) (by rw [dg_length]; omega) va W h
  rw [hnum, ← hX] at hRef
  have hyz : ∀ i, i < 17 → (dg 256 X 17).getD i 0 = (dg 256 X 24).getD i 0 := fun i hi => by rw [dg_getD _ _ _ _ hi, dg_getD _ _ _ _ (by omega)]
  have hz0 : ∀ i, 17 ≤ i → i < 24 → (dg 256 X 24).getD i 0 = 0 := fun i h1 h2 => by rw [dg_getD _ _ _ _ h2]; exact rest_top X i hXl h1
  have ly : (dg 256 X 17).length = 17 := dg_length _ _ _
  have lz : (dg 256 X 24).length = 24 := dg_length _ _ _
  generalize dg 18446744073709551616 X 3 = xs at hR1 hR2 hB2 lx hq
  generalize dg 256 X 17 = yl at hRef hyz ly
  generalize dg 256 X 24 = zl at hB2 hyz hz0 lz
  generalize dg 256 N 24 = nl at hB1 hRef
  have HR1 := Lib.hid hR1
  have HR2 := Lib.hid hR2
  have HB1 := Lib.hid hB1
  have HB2 := Lib.hid hB2
  have HLX := Lib.hid lx
  have HLL := Lib.hid hl
  have HQ := Lib.hid hq
  have HRF := Lib.hid hRef
  have HYZ := Lib.hid hyz
  have HZ0 := Lib.hid hz0
  have HLY := Lib.hid ly
  have HLZ := Lib.hid lz
  clear hR1 hR2 hB1 hB2 lx hl hq hRef hyz hz0 ly lz hnum hXl hX hdg hlt2 hlt hN hd
  have E : LEnv w l (w.alloc (.cells (us l) 30)) := ⟨Has.fresh w 30 _, (Below.refl _ _).alloc (Nat.le_refl _) _⟩
  go_enter Try.func4, Try.ntmps4
  go_upto_region 1 with fail
  change Code.wp _ _ _ _ (w.alloc (.cells (us l) 30))
  generalize w.alloc (.cells (us l) 30) = w0 at E ⊢
  go_wp2_with fail
  go_at_call 9
  refine (awake4_any _).mono ?_
  rintro e w1 ⟨rfl, hb1⟩
  replace E := E.step hb1
  clear hb1 w0
  have i1 := E.1
  go_wp2_with (refine wpList_load_row rfl 30 (.tmp 1) rfl w.heap.size rfl 30 (us l) (0, 0) _ i1 Try.underlying30 rfl (info3 l HLL.out) ?_)
  go_at_call 12
  refine (HR1.out _).mono ?_
  rintro e w2 ⟨rfl, hb1⟩
  replace E := E.step hb1
  clear hb1 w1 i1
  have i3 : Has (w2.alloc (.cells z3 30)) w2.heap.size 30 z3 := Has.fresh w2 30 _
  have hg3 : w.heap.size < w2.heap.size := E.1.lt
  go_upto_region 4 with (refine wpList_store_row rfl 30 (.tmp 3) (.tmp 10) rfl w2.heap.size (us xs) rfl rfl 30 z3 i3 (info3 xs HLX.out) (z3_size xs HLX.out) (us_one xs) ?_)
  change Code.wp _ _ _ _ ((w2.alloc (.cells z3 30)).setRow w2.heap.size (us xs))
  have E3 : REnv w w2.heap.size l xs ((w2.alloc (.cells z3 30)).setRow w2.heap.size (us xs)) :=
    ⟨(E.1.alloc _).setRow_other (by omega) _, i3.setRow _, below_setRow (E.2.alloc E.2.size _) (by omega) _⟩
  generalize (w2.alloc (.cells z3 30)).setRow w2.heap.size (us xs) = w3 at E3 ⊢
  generalize w2.heap.size = g3 at hg3 E3 ⊢
  clear i3 E w2
  have i1 := E3.1
  go_wp2_with (refine wpList_load_row rfl 30 (.tmp 1) rfl w.heap.size rfl 30 (us l) (0, 0) _ i1 Try.underlying30 rfl (info3 l HLL.out) ?_)
  go_at_call 14
  refine (HB1.out _).mono ?_
  rintro e w4 ⟨v1, rfl, hrd1, hb1⟩
  replace E3 := E3.step hb1
  clear hb1 w3 i1 HB1
  go_wp2_with fail
  go_at_call 13
  refine (HRF.out _ _ hrd1).mono ?_
  rintro e w5 ⟨v2, rfl, hrd2, hb1⟩
  replace E3 := E3.step hb1
  clear hb1 w4 hrd1 HRF
  have i3 := E3.2.1
  go_wp2_with (refine wpList_load_row rfl 30 (.tmp 3) rfl g3 rfl 30 (us xs) (0, 0) _ i3 Try.underlying30 rfl (info3 xs HLX.out) ?_)
  go_at_call 14
  refine (HB2.out _).mono ?_
  rintro e w6 ⟨v3, rfl, hrd3, hb1⟩
  replace E3 := E3.step hb1
  replace hrd2 := (hrd2.step hb1).mono hb1.size
  clear hb1 i3 w5 HB2
  obtain ⟨ay, capy, rfl, hcy, hy⟩ := hrd2
  obtain ⟨gy, rfl, hgy, cellY⟩ := hy (by rw [HLY.out]; omega)
  obtain ⟨az, capz, rfl, hcz, hz⟩ := hrd3
  obtain ⟨gz, rfl, hgz, cellZ⟩ := hz (by rw [HLZ.out]; omega)
  rw [HLY.out, HLZ.out]
  have hst : (∀ j, j < 17 → w6.cell? ⟨gy, j, none⟩ = some (I64 (yl.getD j 0))) ∧ (∀ j, j < 24 → w6.cell? ⟨gz, j, none⟩ = some (I64 (zl.getD j 0))) ∧ REnv w g3 l xs w6 :=
    ⟨fun j hj => cellY j (by rw [HLY.out]; exact hj), fun j hj => cellZ j (by rw [HLZ.out]; exact hj), E3⟩
  have HST := Lib.hid hst
  clear hst cellY cellZ E3 hy hz
  go_wp2_with fail
  go_loopw [6] (fun iv wr => ∃ i : Nat, i ≤ 24 ∧ iv = .int .i64 (i : Int) ∧ (∀ j, j < 17 → wr.cell? ⟨gy, j, none⟩ = some (I64 (yl.getD j 0))) ∧ (∀ j, j < 24 → wr.cell? ⟨gz, j, none⟩ = some (I64 (zl.getD j 0))) ∧ REnv w g3 l xs wr) (fun iv _ => 24 - (intOf iv).toNat)
  case atStart => exact ⟨0, by omega, rfl, HST.out⟩
  case round =>
    clear HST
    obtain ⟨i, hi, rfl, cy, cz, E⟩ := hrel
    by_cases hlt : i < 24
    · have t1 : decide ((i : Int) < 24) = true := by simp; omega
      have HS := Lib.hid (And.intro (fun j hj => (cy j hj : wr.drew.cell? ⟨gy, j, none⟩ = some (I64 (yl.getD j 0)))) (And.intro (fun j hj => (cz j hj : wr.drew.cell? ⟨gz, j, none⟩ = some (I64 (zl.getD j 0)))) E.drew))
      have c2 : wr.drew.cell? ⟨gz, i, none⟩ = some (I64 (zl.getD i 0)) := cz i hlt
      have hzn : ¬ ((24 : Int) ≤ (i : Int)) := by omega
      by_cases h17 : i < 17
      · have c1 : wr.drew.cell? ⟨gy, i, none⟩ = some (I64 (yl.getD i 0)) := cy i h17
        rw [HYZ.out i h17] at c1
        have t2 : decide ((i : Int) < 17) = true := by simp; omega
        have t3 : decide ((17 : Int) ≤ (i : Int)) = false := by simp; omega
        have hyn : ¬ ((17 : Int) ≤ (i : Int)) := by omega
        generalize zl.getD i 0 = x at c1 c2
        clear cy cz E
        go_wp2_with fail
        go_region
        go_wp2
        go_roundw
        case rel => exact ⟨i + 1, by omega, by go_num, HS.out⟩
        case measure => simp [intOf]; omega
      · rw [HZ0.out i (by omega) hlt] at c2
        have t2 : decide ((i : Int) < 17) = false := by simp; omega
        have t3 : decide ((17 : Int) ≤ (i : Int)) = true := by simp; omega
        have hyn : (17 : Int) ≤ (i : Int) := by omega
        clear cy cz E
        go_wp2_with fail
        go_region
        go_wp2
        go_roundw
        case rel => exact ⟨i + 1, by omega, by go_num, HS.out⟩
        case measure => simp [intOf]; omega
    · have hi2 : i = 24 := by omega
      subst hi2
      have t1 : decide (((24 : Nat) : Int) < 24) = false := by decide
      clear cy cz
      go_wp2_with fail
      refine wp_region_noPanic ?_
      refine wp_region_held_drew (S := fun W => Has W g3 30 (us xs)) (by kernel_rfl) E.2.1.drew (fun hS => ?_)
      replace E := E.drew
      generalize wr.drew = w7 at E hS ⊢
      refine take1 hS 0 44 (.agg (us xs)) _ rfl (by kernel_rfl) (by kernel_rfl) (by kernel_rfl) (fun _ _ _ h => h) rfl rfl (fun w' h => by exact exec_load_row 30 (.tmp 3) g3 h Try.underlying30 rfl (info3 xs HLX.out) rfl rfl) ?_
      simp only [Act.put, List.setIfInBounds_toArray, List.set_cons_zero, List.set_cons_succ]
      refine take1 hS 2 46 (.agg (us xs)) _ rfl (by kernel_rfl) (by kernel_rfl) (by kernel_rfl) (fun _ _ _ h => h) rfl rfl (fun w' h => by exact exec_load_row 30 (.tmp 3) g3 h Try.underlying30 rfl (info3 xs HLX.out) rfl rfl) ?_
      simp only [Act.put, List.setIfInBounds_toArray, List.set_cons_zero, List.set_cons_succ]
      have hcall := HR2.out w7
      refine onlyCall 1 45 _ _ _ (by kernel_rfl) rfl rfl rfl (by go_simp) hcall ?_
      rintro e w8 ⟨rfl, hb1⟩
      replace E := E.step hb1
      replace hS := E.2.1
      refine ⟨_, rfl, hS, ?_⟩
      simp only [Act.put, List.setIfInBounds_toArray, List.set_cons_zero, List.set_cons_succ]
      clear hcall hb1
      refine take1 hS 3 47 (.bool true) _ rfl (by kernel_rfl) (by kernel_rfl) (by kernel_rfl) (fun _ _ _ h => h) rfl rfl (fun w' h => by exact exec_eq3 (.tmp 45) (.tmp 46) _ _ _ rfl rfl rfl HQ.out) ?_
      simp only [Act.put, List.setIfInBounds_toArray, List.set_cons_zero, List.set_cons_succ]
      refine take1 hS 4 2 (.bool true) _ rfl (by kernel_rfl) (by kernel_rfl) (by kernel_rfl) (fun _ _ _ h => h) rfl rfl (fun w' h => by go_simp) ?_
      simp only [Act.put, List.setIfInBounds_toArray, List.set_cons_zero, List.set_cons_succ]
      refine wpAnyH_done (by kernel_rfl) ?_ _
      refine NoPanic.normal ?_
      go_wp2
      go_ret
      exact ⟨rfl, E.2.2⟩
end Go.Proofs.Ytenpohoekgfeaaa

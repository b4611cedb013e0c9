/- The law NdCut: walked. -/
import Derived.Test.YtkjkmnaiddjjnaaLL
namespace Go.Proofs.Ytkjkmnaiddjjnaa
open Go.RowKit
set_option maxRecDepth 20000 in
set_option maxHeartbeats 1000000 in
theorem cut10_no (x : N10) (hx : x.Fit) (hr : x.right = false) (q : Nat) (w : World) : Calls Try.prog 6 #[.agg x.c, .int .u8 (q : Int)] w fun e w' => e = .returned (.bool true) ∧ Below w.heap.size w w' := by
  have M : Mem w [(w.heap.size, 27, x.c)] (w.alloc (.cells x.c 27)) := (Mem.init w).alloc _ rfl _ _
  have ha := fun W => awake10_any W
  have HA := Lib.hid ha
  have hof := fun W => of10_any x hx W
  have hpr := fun W => print10_any x hx W
  unfold print10 at hpr
  have HO := Lib.hid hof
  clear hof ha
  rw [if_neg (by rw [hr]; decide)] at hpr
  have HPR := Lib.hid hpr
  clear hpr hr
  go_enter Try.func6, Try.ntmps6
  go_upto_region 1 with fail
  change Code.wp _ _ _ _ (w.alloc (.cells x.c 27))
  generalize w.alloc (.cells x.c 27) = W0 at M ⊢
  have r0 := M.row 0 rfl
  go_wp2_with (first
    | (refine wpList_load_row rfl 27 (.tmp 2) rfl w.heap.size rfl 27 x.c (0, 0) _ r0 Try.underlying27 rfl (r10_info hx) ?_))
  refine (HO.out _).mono ?_
  rintro e w1 ⟨rfl, hb1⟩
  replace M := M.step hb1
  clear hb1 r0
  go_wp2_with fail
  refine (HPR.out _).mono ?_
  rintro e w2 ⟨rfl, hb2⟩
  replace M := M.step hb2
  clear hb2
  go_wp2_with fail
  refine (HA.out _).mono ?_
  rintro e w3 ⟨rfl, hb3⟩
  replace M := M.step hb3
  clear hb3
  go_wp2_with fail
  refine (HA.out _).mono ?_
  rintro e w4 ⟨rfl, hb4⟩
  replace M := M.step hb4
  clear hb4
  go_wp2
  go_ret
  exact ⟨rfl, M.below⟩
set_option maxRecDepth 20000 in
set_option maxHeartbeats 1000000 in
theorem cut10_full (x : N10) (hx : x.Fit) (hr : x.right = true) (hh : x.h = true) (q : Nat) (hq : q < 256) (w : World) : Calls Try.prog 6 #[.agg x.c, .int .u8 (q : Int)] w fun e w' => e = .returned (.bool true) ∧ Below w.heap.size w w' := by
  have M : Mem w [(w.heap.size, 27, x.c)] (w.alloc (.cells x.c 27)) := (Mem.init w).alloc _ rfl _ _
  have ha := fun W => awake10_any W
  have HA := Lib.hid ha
  have hof := fun W => of10_any x hx W
  have hpr := fun W => print10_any x hx W
  unfold print10 at hpr
  have HO := Lib.hid hof
  clear hof ha
  rw [if_pos hr] at hpr
  have hsz : (⟨x.bytes.toArray⟩ : ByteArray).size = 72 := by
    rw [str_size, N10.bytes_length hx, hh]
    rfl
  obtain ⟨n, hn⟩ : ∃ n, q % 72 = n := ⟨_, rfl⟩
  have hn28 : n < 72 := by omega
  have hmod : (wrap64 (q : Int)).tmod 72 = (n : Int) := by rw [show wrap64 (q : Int) = (q : Int) from by unfold wrap64; omega, Int.tmod_eq_emod_of_nonneg (by omega)]; omega
  have hpc := fun W => parse10_any ((⟨x.bytes.toArray⟩ : ByteArray).extract 0 n) W
  rw [parse_cut10 hx n (by rw [← str_size, hsz]; exact hn28)] at hpc
  have HPR := Lib.hid hpr
  have HPC := Lib.hid hpc
  clear hpr hpc hr
  generalize (⟨x.bytes.toArray⟩ : ByteArray) = T at HPR HPC hsz
  have hnT : (n : Int) ≤ (T.size : Int) := by omega
  have hn0 : (0 : Int) ≤ (n : Int) := by omega
  have HH := Lib.hid hh
  clear hn hq hh
  go_enter Try.func6, Try.ntmps6
  go_upto_region 1 with fail
  change Code.wp _ _ _ _ (w.alloc (.cells x.c 27))
  generalize w.alloc (.cells x.c 27) = W0 at M ⊢
  have r0 := M.row 0 rfl
  go_wp2_with (first
    | (refine wpList_load_row rfl 27 (.tmp 2) rfl w.heap.size rfl 27 x.c (0, 0) _ r0 Try.underlying27 rfl (r10_info hx) ?_))
  refine (HO.out _).mono ?_
  rintro e w1 ⟨rfl, hb1⟩
  replace M := M.step hb1
  clear hb1 r0
  go_wp2_with fail
  refine (HPR.out _).mono ?_
  rintro e w2 ⟨rfl, hb2⟩
  replace M := M.step hb2
  clear hb2
  go_wp2_with fail
  refine (HA.out _).mono ?_
  rintro e w3 ⟨rfl, hb3⟩
  replace M := M.step hb3
  clear hb3
  go_wp2_with fail
  refine (HPC.out _).mono ?_
  rintro e w4 ⟨rfl, hb4⟩
  replace M := M.step hb4
  clear hb4
  replace M := M.alloc _ rfl 32 nz.c
  simp only [List.cons_append, List.nil_append] at M
  have r1 := M.row 1 rfl
  replace M := M.store 1 rfl nz.c
  simp only [List.set_cons_zero, List.set_cons_succ] at M
  have HM := Lib.hid M
  clear M
  go_upto_region 5 with (first
    | (refine wpList_store_row rfl 32 (.tmp 7) (.tmp 32) rfl w4.heap.size nz.c rfl rfl 32 nz.c r1 (n10_info nz_fit) rfl (N10.one _) ?_))
  change Code.wp _ _ _ _ ((w4.alloc (.cells nz.c 32)).setRow w4.heap.size nz.c)
  have M := HM.out
  clear r1 HM
  generalize (w4.alloc (.cells nz.c 32)).setRow w4.heap.size nz.c = W5 at M ⊢
  generalize w4.heap.size = g at M ⊢
  have ch := (M.row 0 rfl).n_h hx
  rw [HH.out] at ch
  have r1 := M.row 1 rfl
  have HB := Lib.hid M.below
  clear M
  go_wp2_with (first
    | (refine wpList_load_rowG (by kernel_rfl) 32 (.tmp 7) rfl g rfl 32 nz.c (0, 0) _ r1 Try.underlying32 rfl (n10_info nz_fit) ?_)
    | (refine wpExecG (by kernel_rfl) (.agg nz.c) (build10z rfl) ?_)
    | (refine wpExecG (by kernel_rfl) (.bool true) (exec_same10 nz nz_fit rfl (.tmp 39) (.tmp 40) rfl rfl rfl) ?_))
  go_ret
  exact ⟨rfl, HB.out⟩
set_option maxRecDepth 20000 in
set_option maxHeartbeats 1000000 in
theorem cut10_bare (x : N10) (hx : x.Fit) (hr : x.right = true) (hh : x.h = false) (q : Nat) (hq : q < 256) (w : World) : Calls Try.prog 6 #[.agg x.c, .int .u8 (q : Int)] w fun e w' => e = .returned (.bool true) ∧ Below w.heap.size w w' := by
  have M : Mem w [(w.heap.size, 27, x.c)] (w.alloc (.cells x.c 27)) := (Mem.init w).alloc _ rfl _ _
  have ha := fun W => awake10_any W
  have HA := Lib.hid ha
  have hof := fun W => of10_any x hx W
  have hpr := fun W => print10_any x hx W
  unfold print10 at hpr
  have HO := Lib.hid hof
  clear hof ha
  rw [if_pos hr] at hpr
  have hsz : (⟨x.bytes.toArray⟩ : ByteArray).size = 64 := by
    rw [str_size, N10.bytes_length hx, hh]
    rfl
  obtain ⟨n, hn⟩ : ∃ n, q % 64 = n := ⟨_, rfl⟩
  have hn28 : n < 64 := by omega
  have hmod : (wrap64 (q : Int)).tmod 64 = (n : Int) := by rw [show wrap64 (q : Int) = (q : Int) from by unfold wrap64; omega, Int.tmod_eq_emod_of_nonneg (by omega)]; omega
  have hpc := fun W => parse10_any ((⟨x.bytes.toArray⟩ : ByteArray).extract 0 n) W
  rw [parse_cut10 hx n (by rw [← str_size, hsz]; exact hn28)] at hpc
  have HPR := Lib.hid hpr
  have HPC := Lib.hid hpc
  clear hpr hpc hr
  generalize (⟨x.bytes.toArray⟩ : ByteArray) = T at HPR HPC hsz
  have hnT : (n : Int) ≤ (T.size : Int) := by omega
  have hn0 : (0 : Int) ≤ (n : Int) := by omega
  have HH := Lib.hid hh
  clear hn hq hh
  go_enter Try.func6, Try.ntmps6
  go_upto_region 1 with fail
  change Code.wp _ _ _ _ (w.alloc (.cells x.c 27))
  generalize w.alloc (.cells x.c 27) = W0 at M ⊢
  have r0 := M.row 0 rfl
  go_wp2_with (first
    | (refine wpList_load_row rfl 27 (.tmp 2) rfl w.heap.size rfl 27 x.c (0, 0) _ r0 Try.underlying27 rfl (r10_info hx) ?_))
  refine (HO.out _).mono ?_
  rintro e w1 ⟨rfl, hb1⟩
  replace M := M.step hb1
  clear hb1 r0
  go_wp2_with fail
  refine (HPR.out _).mono ?_
  rintro e w2 ⟨rfl, hb2⟩
  replace M := M.step hb2
  clear hb2
  go_wp2_with fail
  refine (HA.out _).mono ?_
  rintro e w3 ⟨rfl, hb3⟩
  replace M := M.step hb3
  clear hb3
  go_wp2_with fail
  refine (HPC.out _).mono ?_
  rintro e w4 ⟨rfl, hb4⟩
  replace M := M.step hb4
  clear hb4
  replace M := M.alloc _ rfl 32 nz.c
  simp only [List.cons_append, List.nil_append] at M
  have r1 := M.row 1 rfl
  replace M := M.store 1 rfl nz.c
  simp only [List.set_cons_zero, List.set_cons_succ] at M
  have HM := Lib.hid M
  clear M
  go_upto_region 5 with (first
    | (refine wpList_store_row rfl 32 (.tmp 7) (.tmp 32) rfl w4.heap.size nz.c rfl rfl 32 nz.c r1 (n10_info nz_fit) rfl (N10.one _) ?_))
  change Code.wp _ _ _ _ ((w4.alloc (.cells nz.c 32)).setRow w4.heap.size nz.c)
  have M := HM.out
  clear r1 HM
  generalize (w4.alloc (.cells nz.c 32)).setRow w4.heap.size nz.c = W5 at M ⊢
  generalize w4.heap.size = g at M ⊢
  have ch := (M.row 0 rfl).n_h hx
  rw [HH.out] at ch
  have r1 := M.row 1 rfl
  have HB := Lib.hid M.below
  clear M
  go_wp2_with (first
    | (refine wpList_load_rowG (by kernel_rfl) 32 (.tmp 7) rfl g rfl 32 nz.c (0, 0) _ r1 Try.underlying32 rfl (n10_info nz_fit) ?_)
    | (refine wpExecG (by kernel_rfl) (.agg nz.c) (build10z rfl) ?_)
    | (refine wpExecG (by kernel_rfl) (.bool true) (exec_same10 nz nz_fit rfl (.tmp 39) (.tmp 40) rfl rfl rfl) ?_))
  go_ret
  exact ⟨rfl, HB.out⟩
theorem cut10_law (x : N10) (hx : x.Fit) (q : Int) (wq : (Lit.int .u8 q).wf = true) (w : World) : Calls Try.prog 6 #[.agg x.c, .int .u8 q] w fun e w' => e = .returned (.bool true) ∧ Below w.heap.size w w' := by
  have hq : 0 ≤ q ∧ q < 256 := by
    simp [Lit.wf, IntKind.min, IntKind.max, IntKind.signed, IntKind.bits] at wq
    omega
  obtain ⟨j, rfl⟩ := Int.eq_ofNat_of_zero_le hq.1
  cases hr : x.right with
  | false => exact cut10_no x hx hr j w
  | true =>
    cases hh : x.h with
    | true => exact cut10_full x hx hr hh j (by omega) w
    | false => exact cut10_bare x hx hr hh j (by omega) w
end Go.Proofs.Ytkjkmnaiddjjnaa

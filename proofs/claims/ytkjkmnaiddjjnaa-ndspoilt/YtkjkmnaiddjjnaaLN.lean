/- The law NdSpoilt: walked. -/
import Derived.Test.YtkjkmnaiddjjnaaLL
import Derived.Test.YtkjkmnaiddjjnaaHB
namespace Go.Proofs.Ytkjkmnaiddjjnaa
open Go.RowKit
theorem xor_unlike (x y : UInt8) (hy : y ≠ 0) : x ^^^ y ≠ x := by
  intro h
  apply hy
  have h3 : x ^^^ (x ^^^ y) = x ^^^ x := by rw [h]
  rw [← UInt8.xor_assoc, UInt8.xor_self, UInt8.zero_xor] at h3
  exact h3
theorem tmod_nat (a b : Nat) : (a : Int).tmod (b : Int) = ((a % b : Nat) : Int) := by rw [Int.tmod_eq_emod_of_nonneg (by omega)]; rfl
set_option maxRecDepth 20000 in
set_option maxHeartbeats 1000000 in
theorem spoilt10_no (x : N10) (hx : x.Fit) (hr : x.right = false) (a y : UInt8) (w : World) : Calls Try.prog 4 #[.agg x.c, .int .u8 (a.toNat : Int), .int .u8 (y.toNat : Int)] w fun e w' => e = .returned (.bool true) ∧ Below w.heap.size w w' := by
  have M : Mem w [(w.heap.size, 27, x.c)] (w.alloc (.cells x.c 27)) := (Mem.init w).alloc _ rfl _ _
  have ha := fun W => awake10_any W
  have HA := Lib.hid ha
  have hof := fun W => of10_any x hx W
  have hpr := fun W => print10_any x hx W
  unfold print10 at hpr
  have HO := Lib.hid hof
  clear hof ha
  rw [if_neg (by rw [hr]; decide)] at hpr
  have HPR := Lib.hid hpr
  clear hpr hr
  go_enter Try.func4, Try.ntmps4
  go_upto_region 1 with fail
  change Code.wp _ _ _ _ (w.alloc (.cells x.c 27))
  generalize w.alloc (.cells x.c 27) = W0 at M ⊢
  have r0 := M.row 0 rfl
  go_wp2_with (first
    | (refine wpList_load_row rfl 27 (.tmp 3) rfl w.heap.size rfl 27 x.c (0, 0) _ r0 Try.underlying27 rfl (r10_info hx) ?_))
  refine (HO.out _).mono ?_
  rintro e w1 ⟨rfl, hb1⟩
  replace M := M.step hb1
  clear hb1 r0
  go_wp2_with fail
  refine (HPR.out _).mono ?_
  rintro e w2 ⟨rfl, hb2⟩
  replace M := M.step hb2
  clear hb2
  go_wp2_with fail
  refine (HA.out _).mono ?_
  rintro e w3 ⟨rfl, hb3⟩
  replace M := M.step hb3
  clear hb3
  go_wp2_with fail
  refine (HA.out _).mono ?_
  rintro e w4 ⟨rfl, hb4⟩
  replace M := M.step hb4
  clear hb4
  go_wp2
  go_ret
  exact ⟨rfl, M.below⟩
set_option maxRecDepth 20000 in
set_option maxHeartbeats 1000000 in
theorem spoilt10_zero (x : N10) (hx : x.Fit) (hr : x.right = true) (a y : UInt8) (hy : y = 0) (w : World) : Calls Try.prog 4 #[.agg x.c, .int .u8 (a.toNat : Int), .int .u8 (y.toNat : Int)] w fun e w' => e = .returned (.bool true) ∧ Below w.heap.size w w' := by
  have M : Mem w [(w.heap.size, 27, x.c)] (w.alloc (.cells x.c 27)) := (Mem.init w).alloc _ rfl _ _
  have ha := fun W => awake10_any W
  have HA := Lib.hid ha
  have hof := fun W => of10_any x hx W
  have hpr := fun W => print10_any x hx W
  unfold print10 at hpr
  have HO := Lib.hid hof
  clear hof ha
  rw [if_pos hr] at hpr
  have ty : ((y.toNat : Int) == 0) = true := by rw [hy]; rfl
  have HPR := Lib.hid hpr
  clear hpr hr hy
  generalize (⟨x.bytes.toArray⟩ : ByteArray) = T at HPR
  go_enter Try.func4, Try.ntmps4
  go_upto_region 1 with fail
  change Code.wp _ _ _ _ (w.alloc (.cells x.c 27))
  generalize w.alloc (.cells x.c 27) = W0 at M ⊢
  have r0 := M.row 0 rfl
  go_wp2_with (first
    | (refine wpList_load_row rfl 27 (.tmp 3) rfl w.heap.size rfl 27 x.c (0, 0) _ r0 Try.underlying27 rfl (r10_info hx) ?_))
  refine (HO.out _).mono ?_
  rintro e w1 ⟨rfl, hb1⟩
  replace M := M.step hb1
  clear hb1 r0
  go_wp2_with fail
  refine (HPR.out _).mono ?_
  rintro e w2 ⟨rfl, hb2⟩
  replace M := M.step hb2
  clear hb2
  go_wp2_with fail
  refine (HA.out _).mono ?_
  rintro e w3 ⟨rfl, hb3⟩
  replace M := M.step hb3
  clear hb3
  go_wp2_with fail
  refine (HA.out _).mono ?_
  rintro e w4 ⟨rfl, hb4⟩
  replace M := M.step hb4
  clear hb4
  go_wp2
  go_ret
  exact ⟨rfl, M.below⟩
set_option maxRecDepth 20000 in
set_option maxHeartbeats 1000000 in
theorem spoilt10_full (x : N10) (hx : x.Fit) (hr : x.right = true) (hh : x.h = true) (a y : UInt8) (hy : y ≠ 0) (w : World) : Calls Try.prog 4 #[.agg x.c, .int .u8 (a.toNat : Int), .int .u8 (y.toNat : Int)] w fun e w' => e = .returned (.bool true) ∧ Below w.heap.size w w' := by
  have M : Mem w [(w.heap.size, 27, x.c)] (w.alloc (.cells x.c 27)) := (Mem.init w).alloc _ rfl _ _
  have ha := fun W => awake10_any W
  have HA := Lib.hid ha
  have hof := fun W => of10_any x hx W
  have hpr := fun W => print10_any x hx W
  unfold print10 at hpr
  have HO := Lib.hid hof
  clear hof ha
  rw [if_pos hr] at hpr
  have hsz : (⟨x.bytes.toArray⟩ : ByteArray).size = 72 := by
    rw [str_size, N10.bytes_length hx, hh]
    rfl
  have hml : x.msg.length = 32 := by
    rw [N10.msg_length hx, hh]
    rfl
  obtain ⟨r, hr0⟩ : ∃ r, a.toNat % 32 = r := ⟨_, rfl⟩
  have hrl : r < 32 := by omega
  obtain ⟨p, hp⟩ : ∃ p, 40 + r = p := ⟨_, rfl⟩
  have hg : x.bytes.getD p 0 = x.msg.getD r 0 := by
    rw [← hp, bytes_lay]
    unfold lay10
    exact getAt _ _ 40 r (by simp only [List.length_append, sizesL_length, hx.f, hx.t, List.length_cons, List.length_nil])
  have hv := xor_unlike (x.msg.getD r 0) y hy
  obtain ⟨hE, hz⟩ := parse_spoilt10 hx r (by omega) (x.msg.getD r 0 ^^^ y) hv
  rw [hp, ← hg] at hE hz
  have hps := fun W => parse10_any ⟨(x.bytes.set p (x.bytes.getD p 0 ^^^ y)).toArray⟩ W
  rw [hz] at hps
  generalize (parse10 ⟨(x.bytes.set p (x.bytes.getD p 0 ^^^ y)).toArray⟩).1 = E at hE hps
  have hxr := xor8 (x.bytes.getD p 0) y
  obtain ⟨u, hu⟩ : ∃ u, x.bytes.getD p 0 = u := ⟨_, rfl⟩
  rw [hu] at hps hxr
  generalize u ^^^ y = z at hps hxr
  obtain ⟨D, hD⟩ : ∃ D : ByteArray, (⟨(x.bytes.set p z).toArray⟩ : ByteArray) = D := ⟨_, rfl⟩
  rw [hD] at hps
  obtain ⟨C, hC⟩ : ∃ C : ByteArray, (⟨x.bytes.toArray⟩ : ByteArray) = C := ⟨_, rfl⟩
  have hCL : C.data.toList = x.bytes := by rw [← hC]
  rw [hC] at hpr hsz
  have hLl : x.bytes.length = 72 := by rw [← str_size, hC, hsz]
  have HPR := Lib.hid hpr
  have HPS := Lib.hid hps
  have HX := Lib.hid hxr
  have HU := Lib.hid hu
  have HD := Lib.hid hD
  have HCL := Lib.hid hCL
  have HLL := Lib.hid hLl
  have ty : ((y.toNat : Int) == 0) = false := by
    rw [beq_eq_false_iff_ne]
    intro e
    exact hy (UInt8.toNat_inj.1 (by show y.toNat = 0; omega))
  have hE2 : (E != 0) = true := by simpa using hE
  have t36 : IntKind.i64.wrap ((C.size : Int) - 40) = 32 := by rw [IntWalk.i64_in _ (by omega)]; omega
  have ha := a.toNat_lt
  have t33 : IntKind.i64.wrap (a.toNat : Int) = (a.toNat : Int) := by rw [IntWalk.i64_in _ (by omega)]
  have t37 : (a.toNat : Int).tmod 32 = (r : Int) := by rw [← hr0]; exact tmod_nat a.toNat 32
  have t37' : IntKind.i64.wrap (r : Int) = (r : Int) := by rw [IntWalk.i64_in _ (by omega)]
  have t38 : IntKind.i64.wrap (40 + (r : Int)) = (p : Int) := by rw [IntWalk.i64_in _ (by omega)]; omega
  have hpC : p < C.size := by omega
  have hpI : (p : Int) < (C.size : Int) := by omega
  have hpL : p < 72 := by omega
  have HCS := Lib.hid hsz
  clear hr hh hy hpr hps hxr hu hD hCL hLl hsz hml hr0 hp hg hv hE hz hC hrl
  go_enter Try.func4, Try.ntmps4
  go_upto_region 1 with fail
  change Code.wp _ _ _ _ (w.alloc (.cells x.c 27))
  generalize w.alloc (.cells x.c 27) = W0 at M ⊢
  have r0 := M.row 0 rfl
  go_wp2_with (first
    | (refine wpList_load_row rfl 27 (.tmp 3) rfl w.heap.size rfl 27 x.c (0, 0) _ r0 Try.underlying27 rfl (r10_info hx) ?_))
  refine (HO.out _).mono ?_
  rintro e w1 ⟨rfl, hb1⟩
  replace M := M.step hb1
  clear hb1 r0
  go_wp2_with fail
  refine (HPR.out _).mono ?_
  rintro e w2 ⟨rfl, hb2⟩
  replace M := M.step hb2
  clear hb2
  go_wp2_with fail
  refine (HA.out _).mono ?_
  rintro e w3 ⟨rfl, hb3⟩
  replace M := M.step hb3
  clear hb3
  have B3 := M.below
  clear M
  have hcv := run_bytes_of_string (P := Try.prog) w3 9 39 5 C Try.underlying9 Try.underlying39 Try.underlying5
  have hrow := rowB_bytes w3.drew C (grownCap w3 C.size 0 5) 5 (bytesRow C (grownCap w3 C.size 0 5)).size (by unfold bytesRow; simp)
  have B4 := (B3.drew).alloc B3.size (.cells (bytesRow C (grownCap w3 C.size 0 5)) 5 ((bytesRow C (grownCap w3 C.size 0 5)).size, (bytesRow C (grownCap w3 C.size 0 5)).size + 1))
  have hgk : w.heap.size ≤ w3.heap.size := B3.size
  go_upto_region 5 with fail
  change Code.wp _ _ _ _ (w3.drew.alloc (.cells (bytesRow C (grownCap w3 C.size 0 5)) 5 ((bytesRow C (grownCap w3 C.size 0 5)).size, (bytesRow C (grownCap w3 C.size 0 5)).size + 1)))
  clear hcv B3
  have hrow2 : RowB _ w3.heap.size C.data.toList := hrow
  clear hrow
  generalize w3.drew.alloc (.cells (bytesRow C (grownCap w3 C.size 0 5)) 5 ((bytesRow C (grownCap w3 C.size 0 5)).size, (bytesRow C (grownCap w3 C.size 0 5)).size + 1)) = w5 at hrow2 B4 ⊢
  have hcap := grownCap_ge w3 C.size 0 5
  generalize grownCap w3 C.size 0 5 = cap at hcap ⊢
  generalize w3.heap.size = g at hrow2 hgk ⊢
  rw [HCL.out] at hrow2
  obtain ⟨c1, f1⟩ := hrow2.2 p (by rw [HLL.out]; exact hpL)
  rw [HU.out] at c1
  go_upto_region 6 with fail
  rw [HX.out]
  have hrow3 := hrow2.set p (by rw [HLL.out]; exact hpL) z
  have B5 := B4.setCell (p := ⟨g, p, none⟩) hgk (B8 z)
  change Code.wp _ _ _ _ (w5.setCell ⟨g, p, none⟩ (B8 z))
  generalize w5.setCell ⟨g, p, none⟩ (B8 z) = w6 at hrow3 B5 ⊢
  clear c1 f1 hrow2 B4 t36 t33 t37 t37' t38 hpC hpI hcap ha
  have hcv := conv_range hrow3.range cap C.size (by rw [List.length_set, HLL.out, HCS.out])
  rw [HD.out] at hcv
  go_wp2_with fail
  refine (HPS.out _).mono ?_
  rintro e w7 ⟨rfl, hb7⟩
  have M := ((Mem.init w).step B5).step hb7
  clear hb7 hcv hrow3 B5
  replace M := M.alloc _ rfl 32 nz.c
  simp only [List.nil_append] at M
  have r1 := M.row 0 rfl
  replace M := M.store 0 rfl nz.c
  simp only [List.set_cons_zero] at M
  have HM := Lib.hid M
  clear M
  go_upto_region 7 with (first
    | (refine wpList_store_row rfl 32 (.tmp 10) (.tmp 48) rfl w7.heap.size nz.c rfl rfl 32 nz.c r1 (n10_info nz_fit) rfl (N10.one _) ?_))
  change Code.wp _ _ _ _ ((w7.alloc (.cells nz.c 32)).setRow w7.heap.size nz.c)
  have M := HM.out
  clear r1 HM
  generalize (w7.alloc (.cells nz.c 32)).setRow w7.heap.size nz.c = W5 at M ⊢
  generalize w7.heap.size = g at M ⊢
  have r1 := M.row 0 rfl
  have HB := Lib.hid M.below
  clear M
  go_wp2_with (first
    | (refine wpList_load_rowG (by kernel_rfl) 32 (.tmp 10) rfl g rfl 32 nz.c (0, 0) _ r1 Try.underlying32 rfl (n10_info nz_fit) ?_)
    | (refine wpExecG (by kernel_rfl) (.agg nz.c) (build10z rfl) ?_)
    | (refine wpExecG (by kernel_rfl) (.bool true) (exec_same10 nz nz_fit rfl (.tmp 53) (.tmp 54) rfl rfl rfl) ?_))
  go_ret
  exact ⟨rfl, HB.out⟩
set_option maxRecDepth 20000 in
set_option maxHeartbeats 1000000 in
theorem spoilt10_bare (x : N10) (hx : x.Fit) (hr : x.right = true) (hh : x.h = false) (a y : UInt8) (hy : y ≠ 0) (w : World) : Calls Try.prog 4 #[.agg x.c, .int .u8 (a.toNat : Int), .int .u8 (y.toNat : Int)] w fun e w' => e = .returned (.bool true) ∧ Below w.heap.size w w' := by
  have M : Mem w [(w.heap.size, 27, x.c)] (w.alloc (.cells x.c 27)) := (Mem.init w).alloc _ rfl _ _
  have ha := fun W => awake10_any W
  have HA := Lib.hid ha
  have hof := fun W => of10_any x hx W
  have hpr := fun W => print10_any x hx W
  unfold print10 at hpr
  have HO := Lib.hid hof
  clear hof ha
  rw [if_pos hr] at hpr
  have hsz : (⟨x.bytes.toArray⟩ : ByteArray).size = 64 := by
    rw [str_size, N10.bytes_length hx, hh]
    rfl
  have hml : x.msg.length = 24 := by
    rw [N10.msg_length hx, hh]
    rfl
  obtain ⟨r, hr0⟩ : ∃ r, a.toNat % 24 = r := ⟨_, rfl⟩
  have hrl : r < 24 := by omega
  obtain ⟨p, hp⟩ : ∃ p, 40 + r = p := ⟨_, rfl⟩
  have hg : x.bytes.getD p 0 = x.msg.getD r 0 := by
    rw [← hp, bytes_lay]
    unfold lay10
    exact getAt _ _ 40 r (by simp only [List.length_append, sizesL_length, hx.f, hx.t, List.length_cons, List.length_nil])
  have hv := xor_unlike (x.msg.getD r 0) y hy
  obtain ⟨hE, hz⟩ := parse_spoilt10 hx r (by omega) (x.msg.getD r 0 ^^^ y) hv
  rw [hp, ← hg] at hE hz
  have hps := fun W => parse10_any ⟨(x.bytes.set p (x.bytes.getD p 0 ^^^ y)).toArray⟩ W
  rw [hz] at hps
  generalize (parse10 ⟨(x.bytes.set p (x.bytes.getD p 0 ^^^ y)).toArray⟩).1 = E at hE hps
  have hxr := xor8 (x.bytes.getD p 0) y
  obtain ⟨u, hu⟩ : ∃ u, x.bytes.getD p 0 = u := ⟨_, rfl⟩
  rw [hu] at hps hxr
  generalize u ^^^ y = z at hps hxr
  obtain ⟨D, hD⟩ : ∃ D : ByteArray, (⟨(x.bytes.set p z).toArray⟩ : ByteArray) = D := ⟨_, rfl⟩
  rw [hD] at hps
  obtain ⟨C, hC⟩ : ∃ C : ByteArray, (⟨x.bytes.toArray⟩ : ByteArray) = C := ⟨_, rfl⟩
  have hCL : C.data.toList = x.bytes := by rw [← hC]
  rw [hC] at hpr hsz
  have hLl : x.bytes.length = 64 := by rw [← str_size, hC, hsz]
  have HPR := Lib.hid hpr
  have HPS := Lib.hid hps
  have HX := Lib.hid hxr
  have HU := Lib.hid hu
  have HD := Lib.hid hD
  have HCL := Lib.hid hCL
  have HLL := Lib.hid hLl
  have ty : ((y.toNat : Int) == 0) = false := by
    rw [beq_eq_false_iff_ne]
    intro e
    exact hy (UInt8.toNat_inj.1 (by show y.toNat = 0; omega))
  have hE2 : (E != 0) = true := by simpa using hE
  have t36 : IntKind.i64.wrap ((C.size : Int) - 40) = 24 := by rw [IntWalk.i64_in _ (by omega)]; omega
  have ha := a.toNat_lt
  have t33 : IntKind.i64.wrap (a.toNat : Int) = (a.toNat : Int) := by rw [IntWalk.i64_in _ (by omega)]
  have t37 : (a.toNat : Int).tmod 24 = (r : Int) := by rw [← hr0]; exact tmod_nat a.toNat 24
  have t37' : IntKind.i64.wrap (r : Int) = (r : Int) := by rw [IntWalk.i64_in _ (by omega)]
  have t38 : IntKind.i64.wrap (40 + (r : Int)) = (p : Int) := by rw [IntWalk.i64_in _ (by omega)]; omega
  have hpC : p < C.size := by omega
  have hpI : (p : Int) < (C.size : Int) := by omega
  have hpL : p < 64 := by omega
  have HCS := Lib.hid hsz
  clear hr hh hy hpr hps hxr hu hD hCL hLl hsz hml hr0 hp hg hv hE hz hC hrl
  go_enter Try.func4, Try.ntmps4
  go_upto_region 1 with fail
  change Code.wp _ _ _ _ (w.alloc (.cells x.c 27))
  generalize w.alloc (.cells x.c 27) = W0 at M ⊢
  have r0 := M.row 0 rfl
  go_wp2_with (first
    | (refine wpList_load_row rfl 27 (.tmp 3) rfl w.heap.size rfl 27 x.c (0, 0) _ r0 Try.underlying27 rfl (r10_info hx) ?_))
  refine (HO.out _).mono ?_
  rintro e w1 ⟨rfl, hb1⟩
  replace M := M.step hb1
  clear hb1 r0
  go_wp2_with fail
  refine (HPR.out _).mono ?_
  rintro e w2 ⟨rfl, hb2⟩
  replace M := M.step hb2
  clear hb2
  go_wp2_with fail
  refine (HA.out _).mono ?_
  rintro e w3 ⟨rfl, hb3⟩
  replace M := M.step hb3
  clear hb3
  have B3 := M.below
  clear M
  have hcv := run_bytes_of_string (P := Try.prog) w3 9 39 5 C Try.underlying9 Try.underlying39 Try.underlying5
  have hrow := rowB_bytes w3.drew C (grownCap w3 C.size 0 5) 5 (bytesRow C (grownCap w3 C.size 0 5)).size (by unfold bytesRow; simp)
  have B4 := (B3.drew).alloc B3.size (.cells (bytesRow C (grownCap w3 C.size 0 5)) 5 ((bytesRow C (grownCap w3 C.size 0 5)).size, (bytesRow C (grownCap w3 C.size 0 5)).size + 1))
  have hgk : w.heap.size ≤ w3.heap.size := B3.size
  go_upto_region 5 with fail
  change Code.wp _ _ _ _ (w3.drew.alloc (.cells (bytesRow C (grownCap w3 C.size 0 5)) 5 ((bytesRow C (grownCap w3 C.size 0 5)).size, (bytesRow C (grownCap w3 C.size 0 5)).size + 1)))
  clear hcv B3
  have hrow2 : RowB _ w3.heap.size C.data.toList := hrow
  clear hrow
  generalize w3.drew.alloc (.cells (bytesRow C (grownCap w3 C.size 0 5)) 5 ((bytesRow C (grownCap w3 C.size 0 5)).size, (bytesRow C (grownCap w3 C.size 0 5)).size + 1)) = w5 at hrow2 B4 ⊢
  have hcap := grownCap_ge w3 C.size 0 5
  generalize grownCap w3 C.size 0 5 = cap at hcap ⊢
  generalize w3.heap.size = g at hrow2 hgk ⊢
  rw [HCL.out] at hrow2
  obtain ⟨c1, f1⟩ := hrow2.2 p (by rw [HLL.out]; exact hpL)
  rw [HU.out] at c1
  go_upto_region 6 with fail
  rw [HX.out]
  have hrow3 := hrow2.set p (by rw [HLL.out]; exact hpL) z
  have B5 := B4.setCell (p := ⟨g, p, none⟩) hgk (B8 z)
  change Code.wp _ _ _ _ (w5.setCell ⟨g, p, none⟩ (B8 z))
  generalize w5.setCell ⟨g, p, none⟩ (B8 z) = w6 at hrow3 B5 ⊢
  clear c1 f1 hrow2 B4 t36 t33 t37 t37' t38 hpC hpI hcap ha
  have hcv := conv_range hrow3.range cap C.size (by rw [List.length_set, HLL.out, HCS.out])
  rw [HD.out] at hcv
  go_wp2_with fail
  refine (HPS.out _).mono ?_
  rintro e w7 ⟨rfl, hb7⟩
  have M := ((Mem.init w).step B5).step hb7
  clear hb7 hcv hrow3 B5
  replace M := M.alloc _ rfl 32 nz.c
  simp only [List.nil_append] at M
  have r1 := M.row 0 rfl
  replace M := M.store 0 rfl nz.c
  simp only [List.set_cons_zero] at M
  have HM := Lib.hid M
  clear M
  go_upto_region 7 with (first
    | (refine wpList_store_row rfl 32 (.tmp 10) (.tmp 48) rfl w7.heap.size nz.c rfl rfl 32 nz.c r1 (n10_info nz_fit) rfl (N10.one _) ?_))
  change Code.wp _ _ _ _ ((w7.alloc (.cells nz.c 32)).setRow w7.heap.size nz.c)
  have M := HM.out
  clear r1 HM
  generalize (w7.alloc (.cells nz.c 32)).setRow w7.heap.size nz.c = W5 at M ⊢
  generalize w7.heap.size = g at M ⊢
  have r1 := M.row 0 rfl
  have HB := Lib.hid M.below
  clear M
  go_wp2_with (first
    | (refine wpList_load_rowG (by kernel_rfl) 32 (.tmp 10) rfl g rfl 32 nz.c (0, 0) _ r1 Try.underlying32 rfl (n10_info nz_fit) ?_)
    | (refine wpExecG (by kernel_rfl) (.agg nz.c) (build10z rfl) ?_)
    | (refine wpExecG (by kernel_rfl) (.bool true) (exec_same10 nz nz_fit rfl (.tmp 53) (.tmp 54) rfl rfl rfl) ?_))
  go_ret
  exact ⟨rfl, HB.out⟩
theorem spoilt10_law (x : N10) (hx : x.Fit) (a y : Int) (ha : (Lit.int .u8 a).wf = true) (hy : (Lit.int .u8 y).wf = true) (w : World) : Calls Try.prog 4 #[.agg x.c, .int .u8 a, .int .u8 y] w fun e w' => e = .returned (.bool true) ∧ Below w.heap.size w w' := by
  obtain ⟨a, rfl⟩ : ∃ x : UInt8, a = (x.toNat : Int) := by
    have hb := bounds_u8 ha
    exact ⟨UInt8.ofNat a.toNat, by rw [UInt8.toNat_ofNat', Nat.mod_eq_of_lt (by omega)]; omega⟩
  obtain ⟨y, rfl⟩ : ∃ x : UInt8, y = (x.toNat : Int) := by
    have hb := bounds_u8 hy
    exact ⟨UInt8.ofNat y.toNat, by rw [UInt8.toNat_ofNat', Nat.mod_eq_of_lt (by omega)]; omega⟩
  cases hr : x.right with
  | false => exact spoilt10_no x hx hr a y w
  | true =>
    by_cases h0 : y = 0
    · exact spoilt10_zero x hx hr a y h0 w
    · cases hh : x.h with
      | true => exact spoilt10_full x hx hr hh a y h0 w
      | false => exact spoilt10_bare x hx hr hh a y h0 w
end Go.Proofs.Ytkjkmnaiddjjnaa

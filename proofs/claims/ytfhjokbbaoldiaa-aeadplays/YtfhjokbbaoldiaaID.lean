/- causeyref04.Clamp and law04.bytes: walked. -/
import Derived.Test.YtfhjokbbaoldiaaIC
import Derived.Test.YtfhjokbbaoldiaaPI
namespace Go.Proofs.Ytfhjokbbaoldiaa
open Go.RowKit
theorem and15 (x : UInt8) : (x &&& 15).toNat = x.toNat % 16 := by
  rw [UInt8.toNat_and]
  exact Nat.and_two_pow_sub_one_eq_mod x.toNat 4
theorem and252 (x : UInt8) : (x &&& 252).toNat = x.toNat / 4 * 4 := by
  rw [UInt8.toNat_and]
  have h : ∀ a : Fin 256, a.val &&& 252 = a.val / 4 * 4 := by decide +kernel
  exact h ⟨x.toNat, x.toNat_lt⟩
/-- the document's r: the digits of a key's first half, its bits made 0 -/
def rL (k : List UInt8) : List Nat := ((clampL k).take 16).map UInt8.toNat
theorem rL_length (k : List UInt8) (hk : k.length = 32) : (rL k).length = 16 := by unfold rL; rw [List.length_map, List.length_take, clampL_length, hk]; rfl
theorem rL_getD (k : List UInt8) (hk : k.length = 32) (i : Nat) (hi : i < 16) : (rL k).getD i 0 = (clF i (k.getD i 0)).toNat := by
  rw [← clampL_getD k (by omega) i]
  unfold rL
  have hl : i < (clampL k).length := by rw [clampL_length, hk]; omega
  rw [List.getD_eq_getElem?_getD, List.getElem?_map, List.getElem?_take_of_lt hi, List.getD_eq_getElem?_getD, List.getElem?_eq_getElem hl]
  rfl
theorem rL_dig (k : List UInt8) : Dig 256 (rL k) := bytes_dig _
theorem take_getD (l : List Nat) (i : Nat) (h : i < l.length) : l.take (i + 1) = l.take i ++ [l.getD i 0] := by
  rw [List.take_succ_eq_append_getElem h, List.getD_eq_getElem?_getD, List.getElem?_eq_getElem h]
  rfl
set_option maxRecDepth 20000 in
set_option maxHeartbeats 2000000 in
theorem refClamp_any (k : List UInt8) (hk : k.length = 32) (w : World) :
    Calls Try.prog 43 #[.agg (bs k)] w fun e w' => ∃ v, e = .returned v ∧ Rd w'.heap.size w' v (rL k) ∧ Below w.heap.size w w' := by
  have i0 : Has (w.alloc (.cells (bs k) 22)) w.heap.size 22 (bs k) := Has.fresh w 22 _
  have hb0 : Below w.heap.size w (w.alloc (.cells (bs k) 22)) := (Below.refl _ _).alloc (Nat.le_refl _) _
  have hs0 : (w.alloc (.cells (bs k) 22)).heap.size = w.heap.size + 1 := alloc_size _ _
  have HKL := Lib.hid hk
  clear hk
  go_enter Try.func43, Try.ntmps43
  go_upto_region 1 with fail
  generalize w.alloc (.cells (bs k) 22) = w0 at i0 hb0 hs0 ⊢
  have HB0 := Lib.hid i0
  have HBW := Lib.hid hb0
  have hs1 : w.heap.size + 1 ≤ w0.heap.size := by omega
  clear i0 hb0 hs0
  go_wp2
  go_loopw [3, 4] (fun ov iv wr => ∃ i : Nat, i ≤ 16 ∧ iv = .int .i64 (i : Int) ∧ Ow (w.heap.size + 1) wr ov ((rL k).take i) ∧ Below (w.heap.size + 1) w0 wr) (fun _ iv _ => 16 - (intOf iv).toNat)
  case atStart => exact ⟨0, by omega, rfl, Ow.nil _ _, Below.refl _ _⟩
  case round =>
    obtain ⟨i, hi, rfl, how, hbl⟩ := hrel
    obtain ⟨av, capv, rfl⟩ := how.form
    have hlt : ((rL k).take i).length = i := by rw [List.length_take, rL_length k HKL.out]; omega
    rw [hlt] at how ⊢
    have HOW := Lib.hid how
    have HLT := Lib.hid hlt
    clear how hlt
    by_cases hex : i < 16
    · have hcs : i = 0 ∨ i = 1 ∨ i = 2 ∨ i = 3 ∨ i = 4 ∨ i = 5 ∨ i = 6 ∨ i = 7 ∨ i = 8 ∨ i = 9 ∨ i = 10 ∨ i = 11 ∨ i = 12 ∨ i = 13 ∨ i = 14 ∨ i = 15 := by omega
      clear hex hi
      rcases hcs with rfl | rfl | rfl | rfl | rfl | rfl | rfl | rfl | rfl | rfl | rfl | rfl | rfl | rfl | rfl | rfl
      · have c1 : wr.cell? ⟨w.heap.size, 0, none⟩ = some (B8 (k.getD 0 0)) := ((hbl.cell (p := ⟨w.heap.size, 0, none⟩) (by show w.heap.size < w.heap.size + 1; omega)).trans (HB0.out.byte 0 (by rw [HKL.out]; omega)))
        have hv := rL_getD k HKL.out 0 (by omega)
        unfold clF at hv
        rw [if_neg (by omega), if_neg (by omega)] at hv
        have htk := take_getD (rL k) 0 (by rw [rL_length k HKL.out]; omega)
        generalize (rL k).take 0 = L at HOW HLT htk
        generalize k.getD 0 0 = y at c1 hv
        have hyl := y.toNat_lt
        rw [hv] at htk
        have HTK := Lib.hid htk
        have HBL := Lib.hid hbl
        clear htk hv hbl
        go_wp2_with (at_builtin; refine wpList_app1 rfl (.tmp 43) (.tmp 45) rfl rfl (HOW.out.alloc _) wr.heap.size 1 (y.toNat) rfl ((Has.fresh wr 3 #[I64 (y.toNat)]).cell 0) (by rw [HLT.out]; omega) (by simp; have := HBL.out.size; omega) ?_; intro v2 w2 hown2 hb2; obtain ⟨a2, cap2, hv2⟩ := hown2.form; rw [hv2] at hown2 ⊢)
        go_roundw
        case rel => exact ⟨1, by omega, by go_num, by rw [HTK.out]; rw [List.length_append] at hown2; exact hown2, (HBL.out.alloc (by have := HBL.out.size; omega) _).trans hb2⟩
        case measure => simp [intOf]
      · have c1 : wr.cell? ⟨w.heap.size, 1, none⟩ = some (B8 (k.getD 1 0)) := ((hbl.cell (p := ⟨w.heap.size, 1, none⟩) (by show w.heap.size < w.heap.size + 1; omega)).trans (HB0.out.byte 1 (by rw [HKL.out]; omega)))
        have hv := rL_getD k HKL.out 1 (by omega)
        unfold clF at hv
        rw [if_neg (by omega), if_neg (by omega)] at hv
        have htk := take_getD (rL k) 1 (by rw [rL_length k HKL.out]; omega)
        generalize (rL k).take 1 = L at HOW HLT htk
        generalize k.getD 1 0 = y at c1 hv
        have hyl := y.toNat_lt
        rw [hv] at htk
        have HTK := Lib.hid htk
        have HBL := Lib.hid hbl
        clear htk hv hbl
        go_wp2_with (at_builtin; refine wpList_app1 rfl (.tmp 43) (.tmp 45) rfl rfl (HOW.out.alloc _) wr.heap.size 1 (y.toNat) rfl ((Has.fresh wr 3 #[I64 (y.toNat)]).cell 0) (by rw [HLT.out]; omega) (by simp; have := HBL.out.size; omega) ?_; intro v2 w2 hown2 hb2; obtain ⟨a2, cap2, hv2⟩ := hown2.form; rw [hv2] at hown2 ⊢)
        go_roundw
        case rel => exact ⟨2, by omega, by go_num, by rw [HTK.out]; rw [List.length_append] at hown2; exact hown2, (HBL.out.alloc (by have := HBL.out.size; omega) _).trans hb2⟩
        case measure => simp [intOf]
      · have c1 : wr.cell? ⟨w.heap.size, 2, none⟩ = some (B8 (k.getD 2 0)) := ((hbl.cell (p := ⟨w.heap.size, 2, none⟩) (by show w.heap.size < w.heap.size + 1; omega)).trans (HB0.out.byte 2 (by rw [HKL.out]; omega)))
        have hv := rL_getD k HKL.out 2 (by omega)
        unfold clF at hv
        rw [if_neg (by omega), if_neg (by omega)] at hv
        have htk := take_getD (rL k) 2 (by rw [rL_length k HKL.out]; omega)
        generalize (rL k).take 2 = L at HOW HLT htk
        generalize k.getD 2 0 = y at c1 hv
        have hyl := y.toNat_lt
        rw [hv] at htk
        have HTK := Lib.hid htk
        have HBL := Lib.hid hbl
        clear htk hv hbl
        go_wp2_with (at_builtin; refine wpList_app1 rfl (.tmp 43) (.tmp 45) rfl rfl (HOW.out.alloc _) wr.heap.size 1 (y.toNat) rfl ((Has.fresh wr 3 #[I64 (y.toNat)]).cell 0) (by rw [HLT.out]; omega) (by simp; have := HBL.out.size; omega) ?_; intro v2 w2 hown2 hb2; obtain ⟨a2, cap2, hv2⟩ := hown2.form; rw [hv2] at hown2 ⊢)
        go_roundw
        case rel => exact ⟨3, by omega, by go_num, by rw [HTK.out]; rw [List.length_append] at hown2; exact hown2, (HBL.out.alloc (by have := HBL.out.size; omega) _).trans hb2⟩
        case measure => simp [intOf]
      · have c1 : wr.cell? ⟨w.heap.size, 3, none⟩ = some (B8 (k.getD 3 0)) := ((hbl.cell (p := ⟨w.heap.size, 3, none⟩) (by show w.heap.size < w.heap.size + 1; omega)).trans (HB0.out.byte 3 (by rw [HKL.out]; omega)))
        have hv := rL_getD k HKL.out 3 (by omega)
        unfold clF at hv
        rw [if_pos (by omega), and15] at hv
        have htk := take_getD (rL k) 3 (by rw [rL_length k HKL.out]; omega)
        generalize (rL k).take 3 = L at HOW HLT htk
        generalize k.getD 3 0 = y at c1 hv
        have hyl := y.toNat_lt
        have hrem : (y.toNat : Int).tmod 16 = ((y.toNat % 16 : Nat) : Int) := tmodI y.toNat 16
        rw [← hv] at hrem
        generalize (rL k).getD 3 0 = v at *
        have HTK := Lib.hid htk
        have HBL := Lib.hid hbl
        clear htk hv hbl
        go_wp2_with (at_builtin; refine wpList_app1 rfl (.tmp 43) (.tmp 45) rfl rfl (HOW.out.alloc _) wr.heap.size 1 (v) rfl ((Has.fresh wr 3 #[I64 (v)]).cell 0) (by rw [HLT.out]; omega) (by simp; have := HBL.out.size; omega) ?_; intro v2 w2 hown2 hb2; obtain ⟨a2, cap2, hv2⟩ := hown2.form; rw [hv2] at hown2 ⊢)
        go_roundw
        case rel => exact ⟨4, by omega, by go_num, by rw [HTK.out]; rw [List.length_append] at hown2; exact hown2, (HBL.out.alloc (by have := HBL.out.size; omega) _).trans hb2⟩
        case measure => simp [intOf]
      · have c1 : wr.cell? ⟨w.heap.size, 4, none⟩ = some (B8 (k.getD 4 0)) := ((hbl.cell (p := ⟨w.heap.size, 4, none⟩) (by show w.heap.size < w.heap.size + 1; omega)).trans (HB0.out.byte 4 (by rw [HKL.out]; omega)))
        have hv := rL_getD k HKL.out 4 (by omega)
        unfold clF at hv
        rw [if_neg (by omega), if_pos (by omega), and252] at hv
        have htk := take_getD (rL k) 4 (by rw [rL_length k HKL.out]; omega)
        generalize (rL k).take 4 = L at HOW HLT htk
        generalize k.getD 4 0 = y at c1 hv
        have hyl := y.toNat_lt
        have hdv : (y.toNat : Int).tdiv 4 = ((y.toNat / 4 : Nat) : Int) := tdivI y.toNat 4
        have hm4 : IntKind.i64.wrap (((y.toNat / 4 : Nat) : Int) * 4) = ((y.toNat / 4 * 4 : Nat) : Int) := by rw [IntWalk.i64_in _ (by omega)]; omega
        rw [← hv] at hm4
        have hdl : y.toNat / 4 < 64 := by omega
        generalize y.toNat / 4 = dd at hdv hm4 hdl hv
        have hm5 : (dd : Int) * 4 = ((rL k).getD 4 0 : Int) := by omega
        generalize (rL k).getD 4 0 = v at *
        have HTK := Lib.hid htk
        have HBL := Lib.hid hbl
        clear htk hv hbl
        go_wp2_with (at_builtin; refine wpList_app1 rfl (.tmp 43) (.tmp 45) rfl rfl (HOW.out.alloc _) wr.heap.size 1 (v) rfl ((Has.fresh wr 3 #[I64 (v)]).cell 0) (by rw [HLT.out]; omega) (by simp; have := HBL.out.size; omega) ?_; intro v2 w2 hown2 hb2; obtain ⟨a2, cap2, hv2⟩ := hown2.form; rw [hv2] at hown2 ⊢)
        go_roundw
        case rel => exact ⟨5, by omega, by go_num, by rw [HTK.out]; rw [List.length_append] at hown2; exact hown2, (HBL.out.alloc (by have := HBL.out.size; omega) _).trans hb2⟩
        case measure => simp [intOf]
      · have c1 : wr.cell? ⟨w.heap.size, 5, none⟩ = some (B8 (k.getD 5 0)) := ((hbl.cell (p := ⟨w.heap.size, 5, none⟩) (by show w.heap.size < w.heap.size + 1; omega)).trans (HB0.out.byte 5 (by rw [HKL.out]; omega)))
        have hv := rL_getD k HKL.out 5 (by omega)
        unfold clF at hv
        rw [if_neg (by omega), if_neg (by omega)] at hv
        have htk := take_getD (rL k) 5 (by rw [rL_length k HKL.out]; omega)
        generalize (rL k).take 5 = L at HOW HLT htk
        generalize k.getD 5 0 = y at c1 hv
        have hyl := y.toNat_lt
        rw [hv] at htk
        have HTK := Lib.hid htk
        have HBL := Lib.hid hbl
        clear htk hv hbl
        go_wp2_with (at_builtin; refine wpList_app1 rfl (.tmp 43) (.tmp 45) rfl rfl (HOW.out.alloc _) wr.heap.size 1 (y.toNat) rfl ((Has.fresh wr 3 #[I64 (y.toNat)]).cell 0) (by rw [HLT.out]; omega) (by simp; have := HBL.out.size; omega) ?_; intro v2 w2 hown2 hb2; obtain ⟨a2, cap2, hv2⟩ := hown2.form; rw [hv2] at hown2 ⊢)
        go_roundw
        case rel => exact ⟨6, by omega, by go_num, by rw [HTK.out]; rw [List.length_append] at hown2; exact hown2, (HBL.out.alloc (by have := HBL.out.size; omega) _).trans hb2⟩
        case measure => simp [intOf]
      · have c1 : wr.cell? ⟨w.heap.size, 6, none⟩ = some (B8 (k.getD 6 0)) := ((hbl.cell (p := ⟨w.heap.size, 6, none⟩) (by show w.heap.size < w.heap.size + 1; omega)).trans (HB0.out.byte 6 (by rw [HKL.out]; omega)))
        have hv := rL_getD k HKL.out 6 (by omega)
        unfold clF at hv
        rw [if_neg (by omega), if_neg (by omega)] at hv
        have htk := take_getD (rL k) 6 (by rw [rL_length k HKL.out]; omega)
        generalize (rL k).take 6 = L at HOW HLT htk
        generalize k.getD 6 0 = y at c1 hv
        have hyl := y.toNat_lt
        rw [hv] at htk
        have HTK := Lib.hid htk
        have HBL := Lib.hid hbl
        clear htk hv hbl
        go_wp2_with (at_builtin; refine wpList_app1 rfl (.tmp 43) (.tmp 45) rfl rfl (HOW.out.alloc _) wr.heap.size 1 (y.toNat) rfl ((Has.fresh wr 3 #[I64 (y.toNat)]).cell 0) (by rw [HLT.out]; omega) (by simp; have := HBL.out.size; omega) ?_; intro v2 w2 hown2 hb2; obtain ⟨a2, cap2, hv2⟩ := hown2.form; rw [hv2] at hown2 ⊢)
        go_roundw
        case rel => exact ⟨7, by omega, by go_num, by rw [HTK.out]; rw [List.length_append] at hown2; exact hown2, (HBL.out.alloc (by have := HBL.out.size; omega) _).trans hb2⟩
        case measure => simp [intOf]
      · have c1 : wr.cell? ⟨w.heap.size, 7, none⟩ = some (B8 (k.getD 7 0)) := ((hbl.cell (p := ⟨w.heap.size, 7, none⟩) (by show w.heap.size < w.heap.size + 1; omega)).trans (HB0.out.byte 7 (by rw [HKL.out]; omega)))
        have hv := rL_getD k HKL.out 7 (by omega)
        unfold clF at hv
        rw [if_pos (by omega), and15] at hv
        have htk := take_getD (rL k) 7 (by rw [rL_length k HKL.out]; omega)
        generalize (rL k).take 7 = L at HOW HLT htk
        generalize k.getD 7 0 = y at c1 hv
        have hyl := y.toNat_lt
        have hrem : (y.toNat : Int).tmod 16 = ((y.toNat % 16 : Nat) : Int) := tmodI y.toNat 16
        rw [← hv] at hrem
        generalize (rL k).getD 7 0 = v at *
        have HTK := Lib.hid htk
        have HBL := Lib.hid hbl
        clear htk hv hbl
        go_wp2_with (at_builtin; refine wpList_app1 rfl (.tmp 43) (.tmp 45) rfl rfl (HOW.out.alloc _) wr.heap.size 1 (v) rfl ((Has.fresh wr 3 #[I64 (v)]).cell 0) (by rw [HLT.out]; omega) (by simp; have := HBL.out.size; omega) ?_; intro v2 w2 hown2 hb2; obtain ⟨a2, cap2, hv2⟩ := hown2.form; rw [hv2] at hown2 ⊢)
        go_roundw
        case rel => exact ⟨8, by omega, by go_num, by rw [HTK.out]; rw [List.length_append] at hown2; exact hown2, (HBL.out.alloc (by have := HBL.out.size; omega) _).trans hb2⟩
        case measure => simp [intOf]
      · have c1 : wr.cell? ⟨w.heap.size, 8, none⟩ = some (B8 (k.getD 8 0)) := ((hbl.cell (p := ⟨w.heap.size, 8, none⟩) (by show w.heap.size < w.heap.size + 1; omega)).trans (HB0.out.byte 8 (by rw [HKL.out]; omega)))
        have hv := rL_getD k HKL.out 8 (by omega)
        unfold clF at hv
        rw [if_neg (by omega), if_pos (by omega), and252] at hv
        have htk := take_getD (rL k) 8 (by rw [rL_length k HKL.out]; omega)
        generalize (rL k).take 8 = L at HOW HLT htk
        generalize k.getD 8 0 = y at c1 hv
        have hyl := y.toNat_lt
        have hdv : (y.toNat : Int).tdiv 4 = ((y.toNat / 4 : Nat) : Int) := tdivI y.toNat 4
        have hm4 : IntKind.i64.wrap (((y.toNat / 4 : Nat) : Int) * 4) = ((y.toNat / 4 * 4 : Nat) : Int) := by rw [IntWalk.i64_in _ (by omega)]; omega
        rw [← hv] at hm4
        have hdl : y.toNat / 4 < 64 := by omega
        generalize y.toNat / 4 = dd at hdv hm4 hdl hv
        have hm5 : (dd : Int) * 4 = ((rL k).getD 8 0 : Int) := by omega
        generalize (rL k).getD 8 0 = v at *
        have HTK := Lib.hid htk
        have HBL := Lib.hid hbl
        clear htk hv hbl
        go_wp2_with (at_builtin; refine wpList_app1 rfl (.tmp 43) (.tmp 45) rfl rfl (HOW.out.alloc _) wr.heap.size 1 (v) rfl ((Has.fresh wr 3 #[I64 (v)]).cell 0) (by rw [HLT.out]; omega) (by simp; have := HBL.out.size; omega) ?_; intro v2 w2 hown2 hb2; obtain ⟨a2, cap2, hv2⟩ := hown2.form; rw [hv2] at hown2 ⊢)
        go_roundw
        case rel => exact ⟨9, by omega, by go_num, by rw [HTK.out]; rw [List.length_append] at hown2; exact hown2, (HBL.out.alloc (by have := HBL.out.size; omega) _).trans hb2⟩
        case measure => simp [intOf]
      · have c1 : wr.cell? ⟨w.heap.size, 9, none⟩ = some (B8 (k.getD 9 0)) := ((hbl.cell (p := ⟨w.heap.size, 9, none⟩) (by show w.heap.size < w.heap.size + 1; omega)).trans (HB0.out.byte 9 (by rw [HKL.out]; omega)))
        have hv := rL_getD k HKL.out 9 (by omega)
        unfold clF at hv
        rw [if_neg (by omega), if_neg (by omega)] at hv
        have htk := take_getD (rL k) 9 (by rw [rL_length k HKL.out]; omega)
        generalize (rL k).take 9 = L at HOW HLT htk
        generalize k.getD 9 0 = y at c1 hv
        have hyl := y.toNat_lt
        rw [hv] at htk
        have HTK := Lib.hid htk
        have HBL := Lib.hid hbl
        clear htk hv hbl
        go_wp2_with (at_builtin; refine wpList_app1 rfl (.tmp 43) (.tmp 45) rfl rfl (HOW.out.alloc _) wr.heap.size 1 (y.toNat) rfl ((Has.fresh wr 3 #[I64 (y.toNat)]).cell 0) (by rw [HLT.out]; omega) (by simp; have := HBL.out.size; omega) ?_; intro v2 w2 hown2 hb2; obtain ⟨a2, cap2, hv2⟩ := hown2.form; rw [hv2] at hown2 ⊢)
        go_roundw
        case rel => exact ⟨10, by omega, by go_num, by rw [HTK.out]; rw [List.length_append] at hown2; exact hown2, (HBL.out.alloc (by have := HBL.out.size; omega) _).trans hb2⟩
        case measure => simp [intOf]
      · have c1 : wr.cell? ⟨w.heap.size, 10, none⟩ = some (B8 (k.getD 10 0)) := ((hbl.cell (p := ⟨w.heap.size, 10, none⟩) (by show w.heap.size < w.heap.size + 1; omega)).trans (HB0.out.byte 10 (by rw [HKL.out]; omega)))
        have hv := rL_getD k HKL.out 10 (by omega)
        unfold clF at hv
        rw [if_neg (by omega), if_neg (by omega)] at hv
        have htk := take_getD (rL k) 10 (by rw [rL_length k HKL.out]; omega)
        generalize (rL k).take 10 = L at HOW HLT htk
        generalize k.getD 10 0 = y at c1 hv
        have hyl := y.toNat_lt
        rw [hv] at htk
        have HTK := Lib.hid htk
        have HBL := Lib.hid hbl
        clear htk hv hbl
        go_wp2_with (at_builtin; refine wpList_app1 rfl (.tmp 43) (.tmp 45) rfl rfl (HOW.out.alloc _) wr.heap.size 1 (y.toNat) rfl ((Has.fresh wr 3 #[I64 (y.toNat)]).cell 0) (by rw [HLT.out]; omega) (by simp; have := HBL.out.size; omega) ?_; intro v2 w2 hown2 hb2; obtain ⟨a2, cap2, hv2⟩ := hown2.form; rw [hv2] at hown2 ⊢)
        go_roundw
        case rel => exact ⟨11, by omega, by go_num, by rw [HTK.out]; rw [List.length_append] at hown2; exact hown2, (HBL.out.alloc (by have := HBL.out.size; omega) _).trans hb2⟩
        case measure => simp [intOf]
      · have c1 : wr.cell? ⟨w.heap.size, 11, none⟩ = some (B8 (k.getD 11 0)) := ((hbl.cell (p := ⟨w.heap.size, 11, none⟩) (by show w.heap.size < w.heap.size + 1; omega)).trans (HB0.out.byte 11 (by rw [HKL.out]; omega)))
        have hv := rL_getD k HKL.out 11 (by omega)
        unfold clF at hv
        rw [if_pos (by omega), and15] at hv
        have htk := take_getD (rL k) 11 (by rw [rL_length k HKL.out]; omega)
        generalize (rL k).take 11 = L at HOW HLT htk
        generalize k.getD 11 0 = y at c1 hv
        have hyl := y.toNat_lt
        have hrem : (y.toNat : Int).tmod 16 = ((y.toNat % 16 : Nat) : Int) := tmodI y.toNat 16
        rw [← hv] at hrem
        generalize (rL k).getD 11 0 = v at *
        have HTK := Lib.hid htk
        have HBL := Lib.hid hbl
        clear htk hv hbl
        go_wp2_with (at_builtin; refine wpList_app1 rfl (.tmp 43) (.tmp 45) rfl rfl (HOW.out.alloc _) wr.heap.size 1 (v) rfl ((Has.fresh wr 3 #[I64 (v)]).cell 0) (by rw [HLT.out]; omega) (by simp; have := HBL.out.size; omega) ?_; intro v2 w2 hown2 hb2; obtain ⟨a2, cap2, hv2⟩ := hown2.form; rw [hv2] at hown2 ⊢)
        go_roundw
        case rel => exact ⟨12, by omega, by go_num, by rw [HTK.out]; rw [List.length_append] at hown2; exact hown2, (HBL.out.alloc (by have := HBL.out.size; omega) _).trans hb2⟩
        case measure => simp [intOf]
      · have c1 : wr.cell? ⟨w.heap.size, 12, none⟩ = some (B8 (k.getD 12 0)) := ((hbl.cell (p := ⟨w.heap.size, 12, none⟩) (by show w.heap.size < w.heap.size + 1; omega)).trans (HB0.out.byte 12 (by rw [HKL.out]; omega)))
        have hv := rL_getD k HKL.out 12 (by omega)
        unfold clF at hv
        rw [if_neg (by omega), if_pos (by omega), and252] at hv
        have htk := take_getD (rL k) 12 (by rw [rL_length k HKL.out]; omega)
        generalize (rL k).take 12 = L at HOW HLT htk
        generalize k.getD 12 0 = y at c1 hv
        have hyl := y.toNat_lt
        have hdv : (y.toNat : Int).tdiv 4 = ((y.toNat / 4 : Nat) : Int) := tdivI y.toNat 4
        have hm4 : IntKind.i64.wrap (((y.toNat / 4 : Nat) : Int) * 4) = ((y.toNat / 4 * 4 : Nat) : Int) := by rw [IntWalk.i64_in _ (by omega)]; omega
        rw [← hv] at hm4
        have hdl : y.toNat / 4 < 64 := by omega
        generalize y.toNat / 4 = dd at hdv hm4 hdl hv
        have hm5 : (dd : Int) * 4 = ((rL k).getD 12 0 : Int) := by omega
        generalize (rL k).getD 12 0 = v at *
        have HTK := Lib.hid htk
        have HBL := Lib.hid hbl
        clear htk hv hbl
        go_wp2_with (at_builtin; refine wpList_app1 rfl (.tmp 43) (.tmp 45) rfl rfl (HOW.out.alloc _) wr.heap.size 1 (v) rfl ((Has.fresh wr 3 #[I64 (v)]).cell 0) (by rw [HLT.out]; omega) (by simp; have := HBL.out.size; omega) ?_; intro v2 w2 hown2 hb2; obtain ⟨a2, cap2, hv2⟩ := hown2.form; rw [hv2] at hown2 ⊢)
        go_roundw
        case rel => exact ⟨13, by omega, by go_num, by rw [HTK.out]; rw [List.length_append] at hown2; exact hown2, (HBL.out.alloc (by have := HBL.out.size; omega) _).trans hb2⟩
        case measure => simp [intOf]
      · have c1 : wr.cell? ⟨w.heap.size, 13, none⟩ = some (B8 (k.getD 13 0)) := ((hbl.cell (p := ⟨w.heap.size, 13, none⟩) (by show w.heap.size < w.heap.size + 1; omega)).trans (HB0.out.byte 13 (by rw [HKL.out]; omega)))
        have hv := rL_getD k HKL.out 13 (by omega)
        unfold clF at hv
        rw [if_neg (by omega), if_neg (by omega)] at hv
        have htk := take_getD (rL k) 13 (by rw [rL_length k HKL.out]; omega)
        generalize (rL k).take 13 = L at HOW HLT htk
        generalize k.getD 13 0 = y at c1 hv
        have hyl := y.toNat_lt
        rw [hv] at htk
        have HTK := Lib.hid htk
        have HBL := Lib.hid hbl
        clear htk hv hbl
        go_wp2_with (at_builtin; refine wpList_app1 rfl (.tmp 43) (.tmp 45) rfl rfl (HOW.out.alloc _) wr.heap.size 1 (y.toNat) rfl ((Has.fresh wr 3 #[I64 (y.toNat)]).cell 0) (by rw [HLT.out]; omega) (by simp; have := HBL.out.size; omega) ?_; intro v2 w2 hown2 hb2; obtain ⟨a2, cap2, hv2⟩ := hown2.form; rw [hv2] at hown2 ⊢)
        go_roundw
        case rel => exact ⟨14, by omega, by go_num, by rw [HTK.out]; rw [List.length_append] at hown2; exact hown2, (HBL.out.alloc (by have := HBL.out.size; omega) _).trans hb2⟩
        case measure => simp [intOf]
      · have c1 : wr.cell? ⟨w.heap.size, 14, none⟩ = some (B8 (k.getD 14 0)) := ((hbl.cell (p := ⟨w.heap.size, 14, none⟩) (by show w.heap.size < w.heap.size + 1; omega)).trans (HB0.out.byte 14 (by rw [HKL.out]; omega)))
        have hv := rL_getD k HKL.out 14 (by omega)
        unfold clF at hv
        rw [if_neg (by omega), if_neg (by omega)] at hv
        have htk := take_getD (rL k) 14 (by rw [rL_length k HKL.out]; omega)
        generalize (rL k).take 14 = L at HOW HLT htk
        generalize k.getD 14 0 = y at c1 hv
        have hyl := y.toNat_lt
        rw [hv] at htk
        have HTK := Lib.hid htk
        have HBL := Lib.hid hbl
        clear htk hv hbl
        go_wp2_with (at_builtin; refine wpList_app1 rfl (.tmp 43) (.tmp 45) rfl rfl (HOW.out.alloc _) wr.heap.size 1 (y.toNat) rfl ((Has.fresh wr 3 #[I64 (y.toNat)]).cell 0) (by rw [HLT.out]; omega) (by simp; have := HBL.out.size; omega) ?_; intro v2 w2 hown2 hb2; obtain ⟨a2, cap2, hv2⟩ := hown2.form; rw [hv2] at hown2 ⊢)
        go_roundw
        case rel => exact ⟨15, by omega, by go_num, by rw [HTK.out]; rw [List.length_append] at hown2; exact hown2, (HBL.out.alloc (by have := HBL.out.size; omega) _).trans hb2⟩
        case measure => simp [intOf]
      · have c1 : wr.cell? ⟨w.heap.size, 15, none⟩ = some (B8 (k.getD 15 0)) := ((hbl.cell (p := ⟨w.heap.size, 15, none⟩) (by show w.heap.size < w.heap.size + 1; omega)).trans (HB0.out.byte 15 (by rw [HKL.out]; omega)))
        have hv := rL_getD k HKL.out 15 (by omega)
        unfold clF at hv
        rw [if_pos (by omega), and15] at hv
        have htk := take_getD (rL k) 15 (by rw [rL_length k HKL.out]; omega)
        generalize (rL k).take 15 = L at HOW HLT htk
        generalize k.getD 15 0 = y at c1 hv
        have hyl := y.toNat_lt
        have hrem : (y.toNat : Int).tmod 16 = ((y.toNat % 16 : Nat) : Int) := tmodI y.toNat 16
        rw [← hv] at hrem
        generalize (rL k).getD 15 0 = v at *
        have HTK := Lib.hid htk
        have HBL := Lib.hid hbl
        clear htk hv hbl
        go_wp2_with (at_builtin; refine wpList_app1 rfl (.tmp 43) (.tmp 45) rfl rfl (HOW.out.alloc _) wr.heap.size 1 (v) rfl ((Has.fresh wr 3 #[I64 (v)]).cell 0) (by rw [HLT.out]; omega) (by simp; have := HBL.out.size; omega) ?_; intro v2 w2 hown2 hb2; obtain ⟨a2, cap2, hv2⟩ := hown2.form; rw [hv2] at hown2 ⊢)
        go_roundw
        case rel => exact ⟨16, by omega, by go_num, by rw [HTK.out]; rw [List.length_append] at hown2; exact hown2, (HBL.out.alloc (by have := HBL.out.size; omega) _).trans hb2⟩
        case measure => simp [intOf]
    · have hi16 : i = 16 := by omega
      subst hi16
      have hrd := HOW.out.rd
      have t1 : decide (((16 : Nat) : Int) < 16) = false := by decide
      rw [List.take_of_length_le (by rw [rL_length k HKL.out]; exact Nat.le_refl _)] at hrd
      have HR := Lib.hid (And.intro hrd (HBW.out.trans (hbl.mono (by omega))))
      clear hrd
      go_wp2
      go_ret
      exact ⟨_, rfl, HR.out⟩
end Go.Proofs.Ytfhjokbbaoldiaa

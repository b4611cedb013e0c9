/- The document's Parse, of a body: walked. -/
import Derived.Test.YtaoclfddamlcaaaWT
namespace Go.Proofs.Ytaoclfddamlcaaa
open Go.RowKit
set_option maxRecDepth 20000 in
set_option maxHeartbeats 4000000 in
theorem refParse9_yes1 (s : ByteArray) (h : 28 ≤ s.size) (h7 : cut9 s 0 7 = [0, 1, 8, 0, 6, 4, 0]) (ho : bAt s 7 = 1) (w : World) :
    Calls Try.prog 15 #[.string s] w fun e w' => e = .returned (.tuple #[.agg (A9.mk 1 (cut9 s 8 6) (cut9 s 18 6) (cut9 s 14 4) (cut9 s 24 4)).c, .int .i64 0]) ∧ Below w.heap.size w w' := by
  have M : Mem w [(w.heap.size, 26, az.c)] (w.alloc (.cells az.c 26)) := (Mem.init w).alloc _ rfl _ _
  have h28 : ¬ (s.size : Int) < 28 := by omega
  have h7' : (7 : Int) ≤ (s.size : Int) := by omega
  have i7 : (7 : Int) < (s.size : Int) := by omega
  have l7 : 7 < s.size := by omega
  have e7 := bAt_eq s 7 l7
  have hne : ((s.extract 0 7).toList == [0, 1, 8, 0, 6, 4, 0]) = true := by rw [seven_list s, h7]; rfl
  rw [ho] at e7
  clear h7 ho
  go_enter Try.func15, Try.ntmps15
  go_upto_region 1 with fail
  change Code.wp _ _ _ _ (w.alloc (.cells az.c 26))
  generalize w.alloc (.cells az.c 26) = W0 at M ⊢
  go_upto_region 5 with fail
  have M1 := M.alloc _ rfl 26 az.c
  simp only [List.cons_append, List.nil_append] at M1
  have x0 : (A9.mk 1 o6 o6 o4 o4).Fit := ⟨rfl, rfl, rfl, rfl⟩
  have r2 := M1.row 1 rfl
  have M2 := M1.store 1 rfl (A9.mk 1 o6 o6 o4 o4).c
  simp only [List.set_cons_zero, List.set_cons_succ] at M2
  have HM := Lib.hid M2
  clear M M1 M2
  go_upto_region 6 with (first
    | (refine wpList_store_row rfl 26 (.tmp 4) (.tmp 28) rfl W0.heap.size (A9.mk 1 o6 o6 o4 o4).c rfl rfl 26 az.c r2 (r9_info x0) rfl (A9.one _) ?_))
  change Code.wp _ _ _ _ ((W0.alloc (.cells az.c 26)).setRow W0.heap.size (A9.mk 1 o6 o6 o4 o4).c)
  have M := HM.out
  clear r2 HM hne h7' i7 e7
  generalize (W0.alloc (.cells az.c 26)).setRow W0.heap.size (A9.mk 1 o6 o6 o4 o4).c = W1 at M ⊢
  generalize W0.heap.size = g at M ⊢
  clear W0
  go_wp2
  go_loopw [5] (fun iv wr => ∃ k : Nat, k ≤ 6 ∧ iv = .int .i64 (k : Int) ∧ Mem w [(w.heap.size, 26, az.c), (g, 26, (A9.mk 1 (fl9 s 8 6 k) (fl9 s 18 6 k) o4 o4).c)] wr) (fun iv _ => 6 - (intOf iv).toNat)
  case atStart => exact ⟨0, by omega, rfl, by rw [fl9_zero, fl9_zero]; exact M⟩
  case round =>
    clear M W1
    obtain ⟨k, hk, rfl, M⟩ := hrel
    by_cases hlt : k < 6
    · have t1 : decide ((k : Int) < 6) = true := by simp; omega
      have xk : (A9.mk 1 (fl9 s 8 6 k) (fl9 s 18 6 k) o4 o4).Fit := ⟨fl9_length s 8 6 k (by omega) hk, fl9_length s 18 6 k (by omega) hk, rfl, rfl⟩
      obtain ⟨A0, hA0⟩ : ∃ A0, 8 + k = A0 := ⟨_, rfl⟩
      obtain ⟨A1, hA1⟩ : ∃ A1, 18 + k = A1 := ⟨_, rfl⟩
      have lx : A0 < s.size := by omega
      have ly : A1 < s.size := by omega
      have ex := bAt_eq s A0 lx
      have ey := bAt_eq s A1 ly
      have ix : (A0 : Int) < (s.size : Int) := by omega
      have iy : (A1 : Int) < (s.size : Int) := by omega
      have wx : IntKind.i64.wrap (8 + (k : Int)) = (A0 : Int) := by rw [IntWalk.i64_in _ (by omega)]; omega
      have wy : IntKind.i64.wrap (18 + (k : Int)) = (A1 : Int) := by rw [IntWalk.i64_in _ (by omega)]; omega
      have hk6 : ¬ ((6 : Int) ≤ (k : Int)) := by omega
      obtain ⟨p1, c1⟩ := (M.row 1 rfl).a1 xk (1 + k) (by omega) (by omega)
      have f1 := (M.row 1 rfl).frozen (1 + k)
      have M1 := M.setCell 1 rfl (1 + k) (B8 (bAt s A0))
      simp only [List.set_cons_zero, List.set_cons_succ] at M1
      rw [A9.one_m xk k hlt, ← hA0, fl9_set s 8 6 k (by omega) hlt, hA0] at M1
      have yk : (A9.mk 1 (fl9 s 8 6 (k + 1)) (fl9 s 18 6 k) o4 o4).Fit := ⟨fl9_length s 8 6 (k + 1) (by omega) hlt, fl9_length s 18 6 k (by omega) hk, rfl, rfl⟩
      obtain ⟨p2, c2⟩ := (M1.row 1 rfl).a1 yk (7 + k) (by omega) (by omega)
      have f2 := (M1.row 1 rfl).frozen (7 + k)
      have M2 := M1.setCell 1 rfl (7 + k) (B8 (bAt s A1))
      simp only [List.set_cons_zero, List.set_cons_succ] at M2
      rw [A9.one_t yk k hlt, ← hA1, fl9_set s 18 6 k (by omega) hlt, hA1] at M2
      have HM2 := Lib.hid (show k + 1 ≤ 6 ∧ Mem w [(w.heap.size, 26, az.c), (g, 26, (A9.mk 1 (fl9 s 8 6 (k + 1)) (fl9 s 18 6 (k + 1)) o4 o4).c)] _ from ⟨hlt, M2⟩)
      generalize bAt s A0 = y0 at ex c2 f2 HM2
      generalize bAt s A1 = y1 at ey HM2
      have HS := Lib.hid (show 6 - (k + 1) < 6 - k ∨ 4 - (k + 1) < 4 - k from by omega)
      have HK := Lib.hid hlt
      clear M M1 M2 xk yk hA0 hA1 HS
      go_wp2
      go_roundw
      case rel => exact ⟨k + 1, HM2.out.1, by go_num, HM2.out.2⟩
      case measure => have := HK.out; simp [intOf]; omega
    · have hk6 : k = 6 := by omega
      subst hk6
      rw [fl9_done s 8 6 (by omega), fl9_done s 18 6 (by omega)] at M
      clear hk hlt
      go_wp2
      go_loopw [6] (fun iv wr => ∃ k : Nat, k ≤ 4 ∧ iv = .int .i64 (k : Int) ∧ Mem w [(w.heap.size, 26, az.c), (g, 26, (A9.mk 1 (cut9 s 8 6) (cut9 s 18 6) (fl9 s 14 4 k) (fl9 s 24 4 k)).c)] wr) (fun iv _ => 4 - (intOf iv).toNat)
      case atStart => exact ⟨0, by omega, rfl, by rw [fl9_zero, fl9_zero]; exact M⟩
      case round =>
        clear M
        obtain ⟨k, hk, rfl, M⟩ := hrel
        by_cases hlt : k < 4
        · have t1 : decide ((k : Int) < 4) = true := by simp; omega
          have xk : (A9.mk 1 (cut9 s 8 6) (cut9 s 18 6) (fl9 s 14 4 k) (fl9 s 24 4 k)).Fit := ⟨cut9_length s 8 6 (by omega), cut9_length s 18 6 (by omega), fl9_length s 14 4 k (by omega) hk, fl9_length s 24 4 k (by omega) hk⟩
          obtain ⟨A0, hA0⟩ : ∃ A0, 14 + k = A0 := ⟨_, rfl⟩
          obtain ⟨A1, hA1⟩ : ∃ A1, 24 + k = A1 := ⟨_, rfl⟩
          have lx : A0 < s.size := by omega
          have ly : A1 < s.size := by omega
          have ex := bAt_eq s A0 lx
          have ey := bAt_eq s A1 ly
          have ix : (A0 : Int) < (s.size : Int) := by omega
          have iy : (A1 : Int) < (s.size : Int) := by omega
          have wx : IntKind.i64.wrap (14 + (k : Int)) = (A0 : Int) := by rw [IntWalk.i64_in _ (by omega)]; omega
          have wy : IntKind.i64.wrap (24 + (k : Int)) = (A1 : Int) := by rw [IntWalk.i64_in _ (by omega)]; omega
          have hk6 : ¬ ((4 : Int) ≤ (k : Int)) := by omega
          obtain ⟨p1, c1⟩ := (M.row 1 rfl).a1 xk (13 + k) (by omega) (by omega)
          have f1 := (M.row 1 rfl).frozen (13 + k)
          have M1 := M.setCell 1 rfl (13 + k) (B8 (bAt s A0))
          simp only [List.set_cons_zero, List.set_cons_succ] at M1
          rw [A9.one_i xk k hlt, ← hA0, fl9_set s 14 4 k (by omega) hlt, hA0] at M1
          have yk : (A9.mk 1 (cut9 s 8 6) (cut9 s 18 6) (fl9 s 14 4 (k + 1)) (fl9 s 24 4 k)).Fit := ⟨cut9_length s 8 6 (by omega), cut9_length s 18 6 (by omega), fl9_length s 14 4 (k + 1) (by omega) hlt, fl9_length s 24 4 k (by omega) hk⟩
          obtain ⟨p2, c2⟩ := (M1.row 1 rfl).a1 yk (17 + k) (by omega) (by omega)
          have f2 := (M1.row 1 rfl).frozen (17 + k)
          have M2 := M1.setCell 1 rfl (17 + k) (B8 (bAt s A1))
          simp only [List.set_cons_zero, List.set_cons_succ] at M2
          rw [A9.one_w yk k hlt, ← hA1, fl9_set s 24 4 k (by omega) hlt, hA1] at M2
          have HM2 := Lib.hid (show k + 1 ≤ 4 ∧ Mem w [(w.heap.size, 26, az.c), (g, 26, (A9.mk 1 (cut9 s 8 6) (cut9 s 18 6) (fl9 s 14 4 (k + 1)) (fl9 s 24 4 (k + 1))).c)] _ from ⟨hlt, M2⟩)
          generalize bAt s A0 = y0 at ex c2 f2 HM2
          generalize bAt s A1 = y1 at ey HM2
          have HS := Lib.hid (show 6 - (k + 1) < 6 - k ∨ 4 - (k + 1) < 4 - k from by omega)
          have HK := Lib.hid hlt
          clear M M1 M2 xk yk hA0 hA1 HS
          go_wp2
          go_roundw
          case rel => exact ⟨k + 1, HM2.out.1, by go_num, HM2.out.2⟩
          case measure => have := HK.out; simp [intOf]; omega
        · have hk4 : k = 4 := by omega
          subst hk4
          rw [fl9_done s 14 4 (by omega), fl9_done s 24 4 (by omega)] at M
          have xf : (A9.mk 1 (cut9 s 8 6) (cut9 s 18 6) (cut9 s 14 4) (cut9 s 24 4)).Fit := ⟨cut9_length s 8 6 (by omega), cut9_length s 18 6 (by omega), cut9_length s 14 4 (by omega), cut9_length s 24 4 (by omega)⟩
          clear hk hlt
          have r0 := M.row 0 rfl
          have r1 := M.row 1 rfl
          replace M := M.store 0 rfl (A9.mk 1 (cut9 s 8 6) (cut9 s 18 6) (cut9 s 14 4) (cut9 s 24 4)).c
          simp only [List.set_cons_zero] at M
          have HM := Lib.hid M
          clear M
          go_wp2_with (first
            | (refine wpList_load_row rfl 26 (.tmp 4) rfl g rfl 26 (A9.mk 1 (cut9 s 8 6) (cut9 s 18 6) (cut9 s 14 4) (cut9 s 24 4)).c (0, 0) _ r1 Try.underlying26 rfl (r9_info xf) ?_)
            | (refine wpList_store_row rfl 26 (.tmp 2) (.tmp 65) rfl w.heap.size (A9.mk 1 (cut9 s 8 6) (cut9 s 18 6) (cut9 s 14 4) (cut9 s 24 4)).c rfl rfl 26 az.c r0 (r9_info xf) (by rw [A9.size az_fit, A9.size xf]) (A9.one _) ?_))
          exact bodyPost_ret (v := .tuple #[.agg (A9.mk 1 (cut9 s 8 6) (cut9 s 18 6) (cut9 s 14 4) (cut9 s 24 4)).c, .int .i64 0]) (results_row_reg rfl _ _ w.heap.size 26 (A9.mk 1 (cut9 s 8 6) (cut9 s 18 6) (cut9 s 14 4) (cut9 s 24 4)).c (0, 0) _ rfl (HM.out.row 0 rfl) Try.underlying26 rfl (r9_info xf) _ rfl) rfl ⟨rfl, HM.out.below⟩
set_option maxRecDepth 20000 in
set_option maxHeartbeats 4000000 in
theorem refParse9_yes2 (s : ByteArray) (h : 28 ≤ s.size) (h7 : cut9 s 0 7 = [0, 1, 8, 0, 6, 4, 0]) (ho : bAt s 7 = 2) (w : World) :
    Calls Try.prog 15 #[.string s] w fun e w' => e = .returned (.tuple #[.agg (A9.mk 2 (cut9 s 8 6) (cut9 s 18 6) (cut9 s 14 4) (cut9 s 24 4)).c, .int .i64 0]) ∧ Below w.heap.size w w' := by
  have M : Mem w [(w.heap.size, 26, az.c)] (w.alloc (.cells az.c 26)) := (Mem.init w).alloc _ rfl _ _
  have h28 : ¬ (s.size : Int) < 28 := by omega
  have h7' : (7 : Int) ≤ (s.size : Int) := by omega
  have i7 : (7 : Int) < (s.size : Int) := by omega
  have l7 : 7 < s.size := by omega
  have e7 := bAt_eq s 7 l7
  have hne : ((s.extract 0 7).toList == [0, 1, 8, 0, 6, 4, 0]) = true := by rw [seven_list s, h7]; rfl
  rw [ho] at e7
  clear h7 ho
  go_enter Try.func15, Try.ntmps15
  go_upto_region 1 with fail
  change Code.wp _ _ _ _ (w.alloc (.cells az.c 26))
  generalize w.alloc (.cells az.c 26) = W0 at M ⊢
  go_upto_region 5 with fail
  have M1 := M.alloc _ rfl 26 az.c
  simp only [List.cons_append, List.nil_append] at M1
  have x0 : (A9.mk 2 o6 o6 o4 o4).Fit := ⟨rfl, rfl, rfl, rfl⟩
  have r2 := M1.row 1 rfl
  have M2 := M1.store 1 rfl (A9.mk 2 o6 o6 o4 o4).c
  simp only [List.set_cons_zero, List.set_cons_succ] at M2
  have HM := Lib.hid M2
  clear M M1 M2
  go_upto_region 6 with (first
    | (refine wpList_store_row rfl 26 (.tmp 4) (.tmp 28) rfl W0.heap.size (A9.mk 2 o6 o6 o4 o4).c rfl rfl 26 az.c r2 (r9_info x0) rfl (A9.one _) ?_))
  change Code.wp _ _ _ _ ((W0.alloc (.cells az.c 26)).setRow W0.heap.size (A9.mk 2 o6 o6 o4 o4).c)
  have M := HM.out
  clear r2 HM hne h7' i7 e7
  generalize (W0.alloc (.cells az.c 26)).setRow W0.heap.size (A9.mk 2 o6 o6 o4 o4).c = W1 at M ⊢
  generalize W0.heap.size = g at M ⊢
  clear W0
  go_wp2
  go_loopw [5] (fun iv wr => ∃ k : Nat, k ≤ 6 ∧ iv = .int .i64 (k : Int) ∧ Mem w [(w.heap.size, 26, az.c), (g, 26, (A9.mk 2 (fl9 s 8 6 k) (fl9 s 18 6 k) o4 o4).c)] wr) (fun iv _ => 6 - (intOf iv).toNat)
  case atStart => exact ⟨0, by omega, rfl, by rw [fl9_zero, fl9_zero]; exact M⟩
  case round =>
    clear M W1
    obtain ⟨k, hk, rfl, M⟩ := hrel
    by_cases hlt : k < 6
    · have t1 : decide ((k : Int) < 6) = true := by simp; omega
      have xk : (A9.mk 2 (fl9 s 8 6 k) (fl9 s 18 6 k) o4 o4).Fit := ⟨fl9_length s 8 6 k (by omega) hk, fl9_length s 18 6 k (by omega) hk, rfl, rfl⟩
      obtain ⟨A0, hA0⟩ : ∃ A0, 8 + k = A0 := ⟨_, rfl⟩
      obtain ⟨A1, hA1⟩ : ∃ A1, 18 + k = A1 := ⟨_, rfl⟩
      have lx : A0 < s.size := by omega
      have ly : A1 < s.size := by omega
      have ex := bAt_eq s A0 lx
      have ey := bAt_eq s A1 ly
      have ix : (A0 : Int) < (s.size : Int) := by omega
      have iy : (A1 : Int) < (s.size : Int) := by omega
      have wx : IntKind.i64.wrap (8 + (k : Int)) = (A0 : Int) := by rw [IntWalk.i64_in _ (by omega)]; omega
      have wy : IntKind.i64.wrap (18 + (k : Int)) = (A1 : Int) := by rw [IntWalk.i64_in _ (by omega)]; omega
      have hk6 : ¬ ((6 : Int) ≤ (k : Int)) := by omega
      obtain ⟨p1, c1⟩ := (M.row 1 rfl).a1 xk (1 + k) (by omega) (by omega)
      have f1 := (M.row 1 rfl).frozen (1 + k)
      have M1 := M.setCell 1 rfl (1 + k) (B8 (bAt s A0))
      simp only [List.set_cons_zero, List.set_cons_succ] at M1
      rw [A9.one_m xk k hlt, ← hA0, fl9_set s 8 6 k (by omega) hlt, hA0] at M1
      have yk : (A9.mk 2 (fl9 s 8 6 (k + 1)) (fl9 s 18 6 k) o4 o4).Fit := ⟨fl9_length s 8 6 (k + 1) (by omega) hlt, fl9_length s 18 6 k (by omega) hk, rfl, rfl⟩
      obtain ⟨p2, c2⟩ := (M1.row 1 rfl).a1 yk (7 + k) (by omega) (by omega)
      have f2 := (M1.row 1 rfl).frozen (7 + k)
      have M2 := M1.setCell 1 rfl (7 + k) (B8 (bAt s A1))
      simp only [List.set_cons_zero, List.set_cons_succ] at M2
      rw [A9.one_t yk k hlt, ← hA1, fl9_set s 18 6 k (by omega) hlt, hA1] at M2
      have HM2 := Lib.hid (show k + 1 ≤ 6 ∧ Mem w [(w.heap.size, 26, az.c), (g, 26, (A9.mk 2 (fl9 s 8 6 (k + 1)) (fl9 s 18 6 (k + 1)) o4 o4).c)] _ from ⟨hlt, M2⟩)
      generalize bAt s A0 = y0 at ex c2 f2 HM2
      generalize bAt s A1 = y1 at ey HM2
      have HS := Lib.hid (show 6 - (k + 1) < 6 - k ∨ 4 - (k + 1) < 4 - k from by omega)
      have HK := Lib.hid hlt
      clear M M1 M2 xk yk hA0 hA1 HS
      go_wp2
      go_roundw
      case rel => exact ⟨k + 1, HM2.out.1, by go_num, HM2.out.2⟩
      case measure => have := HK.out; simp [intOf]; omega
    · have hk6 : k = 6 := by omega
      subst hk6
      rw [fl9_done s 8 6 (by omega), fl9_done s 18 6 (by omega)] at M
      clear hk hlt
      go_wp2
      go_loopw [6] (fun iv wr => ∃ k : Nat, k ≤ 4 ∧ iv = .int .i64 (k : Int) ∧ Mem w [(w.heap.size, 26, az.c), (g, 26, (A9.mk 2 (cut9 s 8 6) (cut9 s 18 6) (fl9 s 14 4 k) (fl9 s 24 4 k)).c)] wr) (fun iv _ => 4 - (intOf iv).toNat)
      case atStart => exact ⟨0, by omega, rfl, by rw [fl9_zero, fl9_zero]; exact M⟩
      case round =>
        clear M
        obtain ⟨k, hk, rfl, M⟩ := hrel
        by_cases hlt : k < 4
        · have t1 : decide ((k : Int) < 4) = true := by simp; omega
          have xk : (A9.mk 2 (cut9 s 8 6) (cut9 s 18 6) (fl9 s 14 4 k) (fl9 s 24 4 k)).Fit := ⟨cut9_length s 8 6 (by omega), cut9_length s 18 6 (by omega), fl9_length s 14 4 k (by omega) hk, fl9_length s 24 4 k (by omega) hk⟩
          obtain ⟨A0, hA0⟩ : ∃ A0, 14 + k = A0 := ⟨_, rfl⟩
          obtain ⟨A1, hA1⟩ : ∃ A1, 24 + k = A1 := ⟨_, rfl⟩
          have lx : A0 < s.size := by omega
          have ly : A1 < s.size := by omega
          have ex := bAt_eq s A0 lx
          have ey := bAt_eq s A1 ly
          have ix : (A0 : Int) < (s.size : Int) := by omega
          have iy : (A1 : Int) < (s.size : Int) := by omega
          have wx : IntKind.i64.wrap (14 + (k : Int)) = (A0 : Int) := by rw [IntWalk.i64_in _ (by omega)]; omega
          have wy : IntKind.i64.wrap (24 + (k : Int)) = (A1 : Int) := by rw [IntWalk.i64_in _ (by omega)]; omega
          have hk6 : ¬ ((4 : Int) ≤ (k : Int)) := by omega
          obtain ⟨p1, c1⟩ := (M.row 1 rfl).a1 xk (13 + k) (by omega) (by omega)
          have f1 := (M.row 1 rfl).frozen (13 + k)
          have M1 := M.setCell 1 rfl (13 + k) (B8 (bAt s A0))
          simp only [List.set_cons_zero, List.set_cons_succ] at M1
          rw [A9.one_i xk k hlt, ← hA0, fl9_set s 14 4 k (by omega) hlt, hA0] at M1
          have yk : (A9.mk 2 (cut9 s 8 6) (cut9 s 18 6) (fl9 s 14 4 (k + 1)) (fl9 s 24 4 k)).Fit := ⟨cut9_length s 8 6 (by omega), cut9_length s 18 6 (by omega), fl9_length s 14 4 (k + 1) (by omega) hlt, fl9_length s 24 4 k (by omega) hk⟩
          obtain ⟨p2, c2⟩ := (M1.row 1 rfl).a1 yk (17 + k) (by omega) (by omega)
          have f2 := (M1.row 1 rfl).frozen (17 + k)
          have M2 := M1.setCell 1 rfl (17 + k) (B8 (bAt s A1))
          simp only [List.set_cons_zero, List.set_cons_succ] at M2
          rw [A9.one_w yk k hlt, ← hA1, fl9_set s 24 4 k (by omega) hlt, hA1] at M2
          have HM2 := Lib.hid (show k + 1 ≤ 4 ∧ Mem w [(w.heap.size, 26, az.c), (g, 26, (A9.mk 2 (cut9 s 8 6) (cut9 s 18 6) (fl9 s 14 4 (k + 1)) (fl9 s 24 4 (k + 1))).c)] _ from ⟨hlt, M2⟩)
          generalize bAt s A0 = y0 at ex c2 f2 HM2
          generalize bAt s A1 = y1 at ey HM2
          have HS := Lib.hid (show 6 - (k + 1) < 6 - k ∨ 4 - (k + 1) < 4 - k from by omega)
          have HK := Lib.hid hlt
          clear M M1 M2 xk yk hA0 hA1 HS
          go_wp2
          go_roundw
          case rel => exact ⟨k + 1, HM2.out.1, by go_num, HM2.out.2⟩
          case measure => have := HK.out; simp [intOf]; omega
        · have hk4 : k = 4 := by omega
          subst hk4
          rw [fl9_done s 14 4 (by omega), fl9_done s 24 4 (by omega)] at M
          have xf : (A9.mk 2 (cut9 s 8 6) (cut9 s 18 6) (cut9 s 14 4) (cut9 s 24 4)).Fit := ⟨cut9_length s 8 6 (by omega), cut9_length s 18 6 (by omega), cut9_length s 14 4 (by omega), cut9_length s 24 4 (by omega)⟩
          clear hk hlt
          have r0 := M.row 0 rfl
          have r1 := M.row 1 rfl
          replace M := M.store 0 rfl (A9.mk 2 (cut9 s 8 6) (cut9 s 18 6) (cut9 s 14 4) (cut9 s 24 4)).c
          simp only [List.set_cons_zero] at M
          have HM := Lib.hid M
          clear M
          go_wp2_with (first
            | (refine wpList_load_row rfl 26 (.tmp 4) rfl g rfl 26 (A9.mk 2 (cut9 s 8 6) (cut9 s 18 6) (cut9 s 14 4) (cut9 s 24 4)).c (0, 0) _ r1 Try.underlying26 rfl (r9_info xf) ?_)
            | (refine wpList_store_row rfl 26 (.tmp 2) (.tmp 65) rfl w.heap.size (A9.mk 2 (cut9 s 8 6) (cut9 s 18 6) (cut9 s 14 4) (cut9 s 24 4)).c rfl rfl 26 az.c r0 (r9_info xf) (by rw [A9.size az_fit, A9.size xf]) (A9.one _) ?_))
          exact bodyPost_ret (v := .tuple #[.agg (A9.mk 2 (cut9 s 8 6) (cut9 s 18 6) (cut9 s 14 4) (cut9 s 24 4)).c, .int .i64 0]) (results_row_reg rfl _ _ w.heap.size 26 (A9.mk 2 (cut9 s 8 6) (cut9 s 18 6) (cut9 s 14 4) (cut9 s 24 4)).c (0, 0) _ rfl (HM.out.row 0 rfl) Try.underlying26 rfl (r9_info xf) _ rfl) rfl ⟨rfl, HM.out.below⟩
/-- the document's Parse, whatever the text -/
theorem refParse9_any (s : ByteArray) (w : World) : Calls Try.prog 15 #[.string s] w fun e w' => e = .returned (.tuple #[.agg (parse9 s).2.c, .int .i64 (parse9 s).1]) ∧ Below w.heap.size w w' := by
  by_cases h : s.size < 28
  · have hp : parse9 s = (2, az) := by unfold parse9; rw [if_pos h]
    rw [hp]
    exact refParse9_short s h w
  · by_cases hy : cut9 s 0 7 = [0, 1, 8, 0, 6, 4, 0] ∧ (bAt s 7 = 1 ∨ bAt s 7 = 2)
    · obtain ⟨h7, ho⟩ := hy
      obtain ⟨hp, hw⟩ := ref9_yes s (by omega) h7 ho
      rw [hp]
      unfold body9
      rw [hw]
      rcases ho with e | e
      · rw [e]
        exact refParse9_yes1 s (by omega) h7 e w
      · rw [e]
        exact refParse9_yes2 s (by omega) h7 e w
    · have hn : cut9 s 0 7 = [0, 1, 8, 0, 6, 4, 0] → ¬ bAt s 7 = 1 ∧ ¬ bAt s 7 = 2 := fun h7 => ⟨fun e => hy ⟨h7, Or.inl e⟩, fun e => hy ⟨h7, Or.inr e⟩⟩
      rw [ref9_no s (by omega) hn]
      exact refParse9_no s (by omega) hn w
end Go.Proofs.Ytaoclfddamlcaaa

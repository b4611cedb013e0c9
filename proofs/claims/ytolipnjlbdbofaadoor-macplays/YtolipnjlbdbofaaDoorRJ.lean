/- causeyref01.Block: walked. -/
import Derived.Test.YtolipnjlbdbofaaDoorRI
import Derived.Test.YtolipnjlbdbofaaDoorP
import Derived.Test.YtolipnjlbdbofaaDoorI
import Derived.StillTailTactics
namespace Go.Proofs.YtolipnjlbdbofaaDoor
open Go.RowKit
theorem refRight_s (x : UInt32) (n : Nat) (hn : n < 32) (w : World) :
    Calls Tryd.prog 28 #[W32 x, .int .i64 n] w fun e w' => e = .returned (W32 (rotr x n)) ∧ w' = w := (refRight_any x n hn w).mono fun _ _ h => ⟨h.1, h.2.symm⟩
theorem refShift_s (x : UInt32) (n : Nat) (hn : n < 32) (w : World) :
    Calls Tryd.prog 29 #[W32 x, .int .i64 n] w fun e w' => e = .returned (W32 (shrw x n)) ∧ w' = w := (refShift_any x n hn w).mono fun _ _ h => ⟨h.1, h.2.symm⟩
theorem rr7 (x : UInt32) (w : World) : Calls Tryd.prog 28 #[W32 x, .int .i64 7] w fun e w' => e = .returned (W32 (rotr x 7)) ∧ w' = w := refRight_s x 7 (by omega) w
theorem rr18 (x : UInt32) (w : World) : Calls Tryd.prog 28 #[W32 x, .int .i64 18] w fun e w' => e = .returned (W32 (rotr x 18)) ∧ w' = w := refRight_s x 18 (by omega) w
theorem rr17 (x : UInt32) (w : World) : Calls Tryd.prog 28 #[W32 x, .int .i64 17] w fun e w' => e = .returned (W32 (rotr x 17)) ∧ w' = w := refRight_s x 17 (by omega) w
theorem rr19 (x : UInt32) (w : World) : Calls Tryd.prog 28 #[W32 x, .int .i64 19] w fun e w' => e = .returned (W32 (rotr x 19)) ∧ w' = w := refRight_s x 19 (by omega) w
theorem rr6 (x : UInt32) (w : World) : Calls Tryd.prog 28 #[W32 x, .int .i64 6] w fun e w' => e = .returned (W32 (rotr x 6)) ∧ w' = w := refRight_s x 6 (by omega) w
theorem rr11 (x : UInt32) (w : World) : Calls Tryd.prog 28 #[W32 x, .int .i64 11] w fun e w' => e = .returned (W32 (rotr x 11)) ∧ w' = w := refRight_s x 11 (by omega) w
theorem rr25 (x : UInt32) (w : World) : Calls Tryd.prog 28 #[W32 x, .int .i64 25] w fun e w' => e = .returned (W32 (rotr x 25)) ∧ w' = w := refRight_s x 25 (by omega) w
theorem rr2 (x : UInt32) (w : World) : Calls Tryd.prog 28 #[W32 x, .int .i64 2] w fun e w' => e = .returned (W32 (rotr x 2)) ∧ w' = w := refRight_s x 2 (by omega) w
theorem rr13 (x : UInt32) (w : World) : Calls Tryd.prog 28 #[W32 x, .int .i64 13] w fun e w' => e = .returned (W32 (rotr x 13)) ∧ w' = w := refRight_s x 13 (by omega) w
theorem rr22 (x : UInt32) (w : World) : Calls Tryd.prog 28 #[W32 x, .int .i64 22] w fun e w' => e = .returned (W32 (rotr x 22)) ∧ w' = w := refRight_s x 22 (by omega) w
theorem rs3 (x : UInt32) (w : World) : Calls Tryd.prog 29 #[W32 x, .int .i64 3] w fun e w' => e = .returned (W32 (shrw x 3)) ∧ w' = w := refShift_s x 3 (by omega) w
theorem rs10 (x : UInt32) (w : World) : Calls Tryd.prog 29 #[W32 x, .int .i64 10] w fun e w' => e = .returned (W32 (shrw x 10)) ∧ w' = w := refShift_s x 10 (by omega) w
theorem rq6 (x : UInt32) (w : World) : Calls Tryd.prog 28 #[W32 x, .int .i64 6] w fun e w' => e = .returned (W32 (rotr x 6)) ∧ w = w' := refRight_any x 6 (by omega) w
theorem rq11 (x : UInt32) (w : World) : Calls Tryd.prog 28 #[W32 x, .int .i64 11] w fun e w' => e = .returned (W32 (rotr x 11)) ∧ w = w' := refRight_any x 11 (by omega) w
theorem rq25 (x : UInt32) (w : World) : Calls Tryd.prog 28 #[W32 x, .int .i64 25] w fun e w' => e = .returned (W32 (rotr x 25)) ∧ w = w' := refRight_any x 25 (by omega) w
theorem rq2 (x : UInt32) (w : World) : Calls Tryd.prog 28 #[W32 x, .int .i64 2] w fun e w' => e = .returned (W32 (rotr x 2)) ∧ w = w' := refRight_any x 2 (by omega) w
theorem rq13 (x : UInt32) (w : World) : Calls Tryd.prog 28 #[W32 x, .int .i64 13] w fun e w' => e = .returned (W32 (rotr x 13)) ∧ w = w' := refRight_any x 13 (by omega) w
theorem rq22 (x : UInt32) (w : World) : Calls Tryd.prog 28 #[W32 x, .int .i64 22] w fun e w' => e = .returned (W32 (rotr x 22)) ∧ w = w' := refRight_any x 22 (by omega) w
theorem notw32 (a : UInt32) : IntKind.u32.wrap (4294967295 - (a.toNat : Int)) = ((~~~a).toNat : Int) := by
  have h := lt32 a
  have e : (~~~a).toNat = 4294967295 - a.toNat := by rw [UInt32.toNat_not]; rfl
  rw [IntKind.wrap_u32', e]; omega
theorem notm32 (a : UInt32) : (4294967295 - (a.toNat : Int)) % 4294967296 = ((~~~a).toNat : Int) := by
  rw [← IntKind.wrap_u32', notw32]
theorem fold_mix (x : UInt32) (i j k : Nat) : rotr x i ^^^ rotr x j ^^^ rotr x k = mix3 x i j k := rfl
theorem word256 (a b c d : UInt8) : IntKind.u32.wrap (IntKind.u32.wrap (IntKind.u32.wrap (IntKind.u32.wrap (IntKind.u32.wrap (IntKind.u32.wrap (IntKind.u32.wrap (a.toNat : Int) * 256) + IntKind.u32.wrap (b.toNat : Int)) * 256) + IntKind.u32.wrap (c.toNat : Int)) * 256) + IntKind.u32.wrap (d.toNat : Int)) = ((wordOf a b c d).toNat : Int) := by
  have := UInt8.toNat_lt a; have := UInt8.toNat_lt b; have := UInt8.toNat_lt c; have := UInt8.toNat_lt d
  rw [wordOf_toNat]
  simp only [IntKind.wrap_u32']
  omega
theorem sum_order (a b c d : UInt32) : a + b + c + d = a + c + b + d := by rw [UInt32.add_assoc a b c, UInt32.add_comm b c, ← UInt32.add_assoc]
/-- what memory holds in the midst of a block -/
def RB (w : World) (v : W8) (l : List UInt32) (W : World) : Prop := Has W w.heap.size 41 (c8 v) ∧ Has W (w.heap.size + 1) 39 (ws kk) ∧ Has W (w.heap.size + 1 + 1) 41 z8 ∧ Has W (w.heap.size + 1 + 1 + 1) 39 (ws l) ∧ Below w.heap.size w W
theorem RB.drew {w : World} {v : W8} {l : List UInt32} {W : World} (h : RB w v l W) : RB w v l W.drew := ⟨h.1, h.2.1, h.2.2.1, h.2.2.2.1, h.2.2.2.2.drew⟩
theorem RB.drewN {w : World} {v : W8} {l : List UInt32} {W : World} (h : RB w v l W) (n : Nat) : RB w v l (W.drewN n) := ⟨h.1, h.2.1, h.2.2.1, h.2.2.2.1, below_drewN h.2.2.2.2 n⟩
theorem RB.put {w : World} {v : W8} {l : List UInt32} {W : World} (h : RB w v l W) (i : Nat) (x : UInt32) : RB w v (l.set i x) (W.setCell ⟨w.heap.size + 1 + 1 + 1, i, none⟩ (W32 x)) :=
  ⟨h.1.other (by simp; omega) _, h.2.1.other (by simp) _, h.2.2.1.other (by simp) _, h.2.2.2.1.setW i x, h.2.2.2.2.setCell (by simp; omega) _⟩
theorem RB.fresh (w : World) (v : W8) (l : List UInt32) : RB w v l ((((w.alloc (.cells (c8 v) 41)).alloc (.cells (ws kk) 39)).alloc (.cells z8 41)).alloc (.cells (ws l) 39)) := by
  refine ⟨(((Has.fresh w 41 _).alloc _).alloc _).alloc _, ?_, ?_, ?_, ?_⟩
  · have h := (((Has.fresh (w.alloc (.cells (c8 v) 41)) 39 (ws kk)).alloc (.cells z8 41)).alloc (.cells (ws l) 39))
    simpa using h
  · have h := ((Has.fresh ((w.alloc (.cells (c8 v) 41)).alloc (.cells (ws kk) 39)) 41 z8).alloc (.cells (ws l) 39))
    simpa using h
  · have h := (Has.fresh (((w.alloc (.cells (c8 v) 41)).alloc (.cells (ws kk) 39)).alloc (.cells z8 41)) 39 (ws l))
    simpa using h
  · exact ((((Below.refl _ _).alloc (Nat.le_refl _) _).alloc (by simp) _).alloc (by simp; omega) _).alloc (by simp; omega) _
set_option maxRecDepth 100000 in
set_option maxHeartbeats 8000000 in
theorem refBlock_any (v : W8) (s : ByteArray) (hs : s.size = 64) (w : World) :
    Calls Tryd.prog 19 #[.agg (c8 v), .string s, .agg (ws kk)] w fun e w' => e = .returned (.agg (c8 (blk v s.data.toList))) ∧ Below w.heap.size w w' := by
  have G := RB.fresh w v (wpad s.data.toList 0)
  go_enter Tryd.func19, Tryd.ntmps19
  go_wp2
  change Code.wp _ _ _ _ ((((w.alloc (.cells (c8 v) 41)).alloc (.cells (ws kk) 39)).alloc (.cells z8 41)).alloc (.cells (ws (List.replicate 64 0)) 39))
  rw [wpad_zero] at G
  generalize (((w.alloc (.cells (c8 v) 41)).alloc (.cells (ws kk) 39)).alloc (.cells z8 41)).alloc (.cells (ws (List.replicate 64 0)) 39) = wa at G ⊢
  go_loopw [8] (fun i wr => ∃ k : Nat, k ≤ 64 ∧ i = .int .i64 (k : Int) ∧ RB w v (wpad s.data.toList k) wr) (fun i _ => 64 - (intOf i).toNat)
  case atStart => exact ⟨0, by omega, rfl, by rw [wpad_zero]; exact G⟩
  case round =>
    clear G
    obtain ⟨k, hk, rfl, G⟩ := hrel
    by_cases h16 : k < 16
    · have t1 : decide ((k : Int) < 64) = true := by simp; omega
      have t2 : decide ((k : Int) < 16) = true := by simp; omega
      have hk64 : (k : Int) < 64 := by omega
      have cw := G.2.2.2.1.word k (by rw [wpad_length _ _ hk]; omega)
      have qw := G.2.2.2.1.frozen k
      obtain ⟨A0, hA0⟩ : ∃ A, A = 4 * k := ⟨_, rfl⟩
      obtain ⟨A1, hA1⟩ : ∃ A, A = 4 * k + 1 := ⟨_, rfl⟩
      obtain ⟨A2, hA2⟩ : ∃ A, A = 4 * k + 2 := ⟨_, rfl⟩
      obtain ⟨A3, hA3⟩ : ∃ A, A = 4 * k + 3 := ⟨_, rfl⟩
      have i0 : A0 < s.size := by omega
      have j0 : (A0 : Int) < 64 := by omega
      have i1 : A1 < s.size := by omega
      have j1 : (A1 : Int) < 64 := by omega
      have i2 : A2 < s.size := by omega
      have j2 : (A2 : Int) < 64 := by omega
      have i3 : A3 < s.size := by omega
      have j3 : (A3 : Int) < 64 := by omega
      obtain ⟨e0, e1, e2, e3⟩ : IntKind.i64.wrap ((4 : Int) * (k : Int)) = (A0 : Int) ∧ IntKind.i64.wrap ((A0 : Int) + 1) = (A1 : Int) ∧ IntKind.i64.wrap ((A0 : Int) + 2) = (A2 : Int) ∧ IntKind.i64.wrap ((A0 : Int) + 3) = (A3 : Int) := by
        refine ⟨?_, ?_, ?_, ?_⟩
        all_goals
          rw [IntWalk.i64_in _ (by omega)]; omega
      have HA := Lib.hid (And.intro hA0 (And.intro hA1 (And.intro hA2 hA3)))
      clear hA0 hA1 hA2 hA3
      go_wp2
      go_still_tail 31, (by kernel_rfl)
      change wpList _ _ _ _ _ wr.drew
      replace G := G.drew
      generalize wr.drew = wr2 at G ⊢
      rw [word256]
      have hsw : wordOf s[A0] s[A1] s[A2] s[A3] = sw s.data.toList k := by
        obtain ⟨h0, h1, h2, h3⟩ := HA.out
        subst h0 h1 h2 h3
        unfold sw
        rw [bAt_eq, bAt_eq, bAt_eq, bAt_eq]
        rfl
      rw [hsw]
      clear hsw e0 e1 e2 e3 cw qw
      have cw := G.2.2.2.1.word k (by rw [wpad_length _ _ hk]; omega)
      have qw := G.2.2.2.1.frozen k
      have hset := wpad_set s.data.toList k (by omega)
      rw [if_pos h16] at hset
      generalize (wpad s.data.toList k).getD k 0 = old at cw
      generalize sw s.data.toList k = new at hset ⊢
      generalize IntKind.u32.wrap _ = g1
      have HSET := Lib.hid hset
      clear hset
      go_wp2
      go_roundw
      case rel => exact ⟨k + 1, by omega, by go_num, by rw [← HSET.out]; exact G.put k new⟩
      case measure => simp [intOf]; omega
    · by_cases h64 : k < 64
      · have t1 : decide ((k : Int) < 64) = true := by simp; omega
        have t2 : decide ((k : Int) < 16) = false := by simp; omega
        have hk64 : (k : Int) < 64 := by omega
        have hl := wpad_length s.data.toList k (by omega)
        have c15 := G.2.2.2.1.word (k - 15) (by omega)
        have c2 := G.2.2.2.1.word (k - 2) (by omega)
        have c16 := G.2.2.2.1.word (k - 16) (by omega)
        have c7 := G.2.2.2.1.word (k - 7) (by omega)
        rw [wpad_get _ _ _ (by omega)] at c15 c2 c16 c7
        have hnx : nextW (wl s.data.toList k) k = (wl s.data.toList k).getD (k - 16) 0 + sig0 ((wl s.data.toList k).getD (k - 15) 0) + (wl s.data.toList k).getD (k - 7) 0 + sig1 ((wl s.data.toList k).getD (k - 2) 0) := rfl
        generalize (wl s.data.toList k).getD (k - 15) 0 = x15 at c15 hnx
        generalize (wl s.data.toList k).getD (k - 2) 0 = x2 at c2 hnx
        generalize (wl s.data.toList k).getD (k - 16) 0 = x16 at c16 hnx
        generalize (wl s.data.toList k).getD (k - 7) 0 = x7 at c7 hnx
        obtain ⟨A15, hA15⟩ : ∃ A, A = k - 15 := ⟨_, rfl⟩
        obtain ⟨A2, hA2⟩ : ∃ A, A = k - 2 := ⟨_, rfl⟩
        obtain ⟨A16, hA16⟩ : ∃ A, A = k - 16 := ⟨_, rfl⟩
        obtain ⟨A7, hA7⟩ : ∃ A, A = k - 7 := ⟨_, rfl⟩
        rw [← hA15] at c15
        rw [← hA2] at c2
        rw [← hA16] at c16
        rw [← hA7] at c7
        have n15 : (A15 : Int) < 64 := by omega
        have n2 : (A2 : Int) < 64 := by omega
        have n16 : (A16 : Int) < 64 := by omega
        have n7 : (A7 : Int) < 64 := by omega
        obtain ⟨e15, e2, e16, e7⟩ : IntKind.i64.wrap ((k : Int) - 15) = (A15 : Int) ∧ IntKind.i64.wrap ((k : Int) - 2) = (A2 : Int) ∧ IntKind.i64.wrap ((k : Int) - 16) = (A16 : Int) ∧ IntKind.i64.wrap ((k : Int) - 7) = (A7 : Int) := by
          refine ⟨?_, ?_, ?_, ?_⟩
          all_goals
            rw [IntWalk.i64_in _ (by omega)]; omega
        have HN := Lib.hid hnx
        clear hnx hA15 hA2 hA16 hA7
        go_wp2
        go_quiet (fail)
        replace G := G.drewN nq
        replace c16 : (wr.drewN nq).cell? _ = _ := c16
        replace c7 : (wr.drewN nq).cell? _ = _ := c7
        clear c15 c2
        generalize wr.drewN nq = wr2 at G c16 c7 ⊢
        go_wp2
        refine wp_region_still_tail 29 (by kernel_rfl) (by kernel_rfl) ?_
        simp only [List.take_succ_cons, List.take_zero, List.drop_succ_cons, List.drop_zero]
        iterate 11 still_step
        refine wpStill_step (fun K hK => ?_)
        go_simp
        with_reducible refine ⟨_, rr7 _ _, hK _ ?_⟩
        clear hK K
        still_step
        refine wpStill_step (fun K hK => ?_)
        go_simp
        with_reducible refine ⟨_, rr18 _ _, hK _ ?_⟩
        clear hK K
        iterate 2 still_step
        refine wpStill_step (fun K hK => ?_)
        go_simp
        with_reducible refine ⟨_, rs3 _ _, hK _ ?_⟩
        clear hK K
        iterate 3 still_step
        refine wpStill_step (fun K hK => ?_)
        go_simp
        with_reducible refine ⟨_, rr17 _ _, hK _ ?_⟩
        clear hK K
        still_step
        refine wpStill_step (fun K hK => ?_)
        go_simp
        with_reducible refine ⟨_, rr19 _ _, hK _ ?_⟩
        clear hK K
        iterate 2 still_step
        refine wpStill_step (fun K hK => ?_)
        go_simp
        with_reducible refine ⟨_, rs10 _ _, hK _ ?_⟩
        clear hK K
        iterate 3 still_step
        refine wpStill_nil ?_
        change wpList _ _ _ _ _ wr2.drew
        replace G := G.drew
        generalize wr2.drew = wr3 at G ⊢
        clear c16 c7
        simp only [xor32, addw32, fold_sig0, fold_sig1]
        have cw := G.2.2.2.1.word k (by rw [hl]; omega)
        have qw := G.2.2.2.1.frozen k
        have hset := wpad_set s.data.toList k (by omega)
        rw [if_neg h16, HN.out, ← sum_order] at hset
        generalize (wpad s.data.toList k).getD k 0 = old at cw
        generalize x16 + x7 + sig0 x15 + sig1 x2 = new at hset ⊢
        have HSET := Lib.hid hset
        clear hset e15 e2 e16 e7 hl
        go_wp2
        go_roundw
        case rel => exact ⟨k + 1, by omega, by go_num, by rw [← HSET.out]; exact G.put k new⟩
        case measure => simp [intOf]; omega
      · have hk2 : k = 64 := by omega
        subst hk2
        rw [wpad_done] at G
        rw [show ((64 : Nat) : Int) = 64 from rfl]
        have hwl : (wl s.data.toList 64).length = 64 := wl_length _ _
        have hblk : blk v s.data.toList = addW v (rounds v (wl s.data.toList 64) 64) := rfl
        generalize wl s.data.toList 64 = W at G hwl hblk
        have HWL := Lib.hid hwl
        have HBLK := Lib.hid hblk
        clear hwl hblk
        obtain ⟨v0, v1, v2, v3, v4, v5, v6, v7⟩ := Has.c8_all (xa := v.a) (xb := v.b) (xc := v.c) (xd := v.d) (xe := v.e) (xf := v.f) (xg := v.g) (xh := v.h) G.1
        go_wp2
        go_quiet (fail)
        replace G := G.drewN nq
        clear v0 v1 v2 v3 v4 v5 v6 v7
        generalize wr.drewN nq = wr2 at G ⊢
        go_wp2
        go_loopw [11, 12, 13, 14, 15, 16, 17, 18, 19] (fun a b c d e f g h i wr => ∃ k : Nat, k ≤ 64 ∧ i = .int .i64 (k : Int) ∧ a = W32 (rounds v W k).a ∧ b = W32 (rounds v W k).b ∧ c = W32 (rounds v W k).c ∧ d = W32 (rounds v W k).d ∧ e = W32 (rounds v W k).e ∧ f = W32 (rounds v W k).f ∧ g = W32 (rounds v W k).g ∧ h = W32 (rounds v W k).h ∧ RB w v W wr) (fun _ _ _ _ _ _ _ _ i _ => 64 - (intOf i).toNat)
        case atStart => exact ⟨0, by omega, rfl, rfl, rfl, rfl, rfl, rfl, rfl, rfl, rfl, G⟩
        case round =>
          clear G
          obtain ⟨k, hk, rfl, rfl, rfl, rfl, rfl, rfl, rfl, rfl, rfl, G⟩ := hrel
          by_cases hk64 : k < 64
          · have hk64i : (k : Int) < 64 := by omega
            have t1 : decide ((k : Int) < 64) = true := by simp; omega
            have hrn : rounds v W (k + 1) = rnd (rounds v W k) (kk.getD k 0) (W.getD k 0) := rfl
            have ck := G.2.1.word k (by rw [kk_len]; exact hk64)
            have cw := G.2.2.2.1.word k (by rw [HWL.out]; exact hk64)
            generalize kk.getD k 0 = K at hrn ck
            generalize W.getD k 0 = wk at hrn cw
            generalize rounds v W k = st at hrn ⊢
            obtain ⟨xa, xb, xc, xd, xe, xf, xg, xh⟩ := st
            have HRN := Lib.hid hrn
            clear hrn
            simp only
            go_upto_region 14 with (go_at_call 28; (first | (with_reducible refine (rq6 _ _).mono ?_) | (with_reducible refine (rq11 _ _).mono ?_) | (with_reducible refine (rq25 _ _).mono ?_)); rintro e w' ⟨rfl, rfl⟩)
            simp only [xor32, fold_mix]
            obtain ⟨s1, hs1⟩ : ∃ s1, s1 = mix3 xe 6 11 25 := ⟨_, rfl⟩
            rw [← hs1]
            have HS1 := Lib.hid hs1
            clear hs1
            go_quiet (fail)
            replace G := G.drewN nq
            clear ck cw
            generalize wr.drewN nq = wr3 at G ⊢
            simp only [notm32, and32, xor32, sum5]
            obtain ⟨tt, htt⟩ : ∃ tt, tt = xh + s1 + (xe &&& xf ^^^ ~~~xe &&& xg) + K + wk := ⟨_, rfl⟩
            rw [← htt]
            have HTT := Lib.hid htt
            clear htt
            go_wp2_with (go_at_call 28; (first | (with_reducible refine (rq2 _ _).mono ?_) | (with_reducible refine (rq13 _ _).mono ?_) | (with_reducible refine (rq22 _ _).mono ?_)); rintro e w' ⟨rfl, rfl⟩)
            have hr : rounds v W (k + 1) = ⟨tt + (mix3 xa 2 13 22 + (xa &&& xb ^^^ xa &&& xc ^^^ xb &&& xc)), xa, xb, xc, xd + tt, xe, xf, xg⟩ := by rw [HRN.out, HTT.out, HS1.out]; rfl
            simp only [and32, xor32, add32, fold_mix]
            go_roundw
            case rel => exact ⟨k + 1, by omega, by go_num, by rw [hr], by rw [hr], by rw [hr], by rw [hr], by rw [hr], by rw [hr], by rw [hr], by rw [hr], G⟩
            case measure => simp [intOf]; omega
          · have hk2 : k = 64 := by omega
            subst hk2
            rw [show ((64 : Nat) : Int) = 64 from rfl]
            obtain ⟨st, hst⟩ : ∃ st, st = rounds v W 64 := ⟨_, rfl⟩
            rw [← hst] at HBLK ⊢
            clear hst
            obtain ⟨v0, v1, v2, v3, v4, v5, v6, v7⟩ := Has.c8_all (xa := v.a) (xb := v.b) (xc := v.c) (xd := v.d) (xe := v.e) (xf := v.f) (xg := v.g) (xh := v.h) G.1
            obtain ⟨o0, o1, o2, o3, o4, o5, o6, o7⟩ := Has.c8_all (xa := 0) (xb := 0) (xc := 0) (xd := 0) (xe := 0) (xf := 0) (xg := 0) (xh := 0) G.2.2.1
            have q0 := G.2.2.1.frozen 0
            have q1 := G.2.2.1.frozen 1
            have q2 := G.2.2.1.frozen 2
            have q3 := G.2.2.1.frozen 3
            have q4 := G.2.2.1.frozen 4
            have q5 := G.2.2.1.frozen 5
            have q6 := G.2.2.1.frozen 6
            have q7 := G.2.2.1.frozen 7
            go_wp2
            simp only [add32]
            have hp := put8 (v := ⟨0, 0, 0, 0, 0, 0, 0, 0⟩) G.2.2.1 (addW v st)
            have hb := below_put8 (g' := w.heap.size + 1 + 1) G.2.2.2.2 (by omega) (addW v st)
            refine bodyPost_ret (v := .agg (c8 (addW v st))) (results_cell_row rfl _ _ (w.heap.size + 1 + 1) 41 (c8 (addW v st)) (0, 0) _ rfl hp Tryd.underlying41 rfl (c8_info _)) rfl ⟨by rw [HBLK.out], hb⟩
end Go.Proofs.YtolipnjlbdbofaaDoor

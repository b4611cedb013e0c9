/- curve.added: walked. -/
import Derived.Test.YtdikkdediofieaaEA
namespace Go.Proofs.Ytdikkdediofieaa
open Go.RowKit
theorem alloc_size (w : World) (o : Obj) : (w.alloc o).heap.size = w.heap.size + 1 := by simp
def z4 : Array Value := us (List.replicate 4 0)
theorem info4 (l : List Nat) (hl : l.length = 4) : (Try.prog.info? 38).map (·.size) = some (us l).size := by
  rw [us_size, hl]; exact (by kernel_rfl : (Try.prog.info? 38).map (·.size) = some 4)
theorem z4_size (l : List Nat) (hl : l.length = 4) : z4.size = (us l).size := by unfold z4; rw [us_size, us_size, hl]; rfl
/-- three blocks are made -/
theorem three_new (w : World) (a b c : Array Value) (ta tb tc : TypeId) : Has (((w.alloc (.cells a ta)).alloc (.cells b tb)).alloc (.cells c tc)) w.heap.size ta a ∧
    Has (((w.alloc (.cells a ta)).alloc (.cells b tb)).alloc (.cells c tc)) (w.heap.size + 1) tb b ∧ Has (((w.alloc (.cells a ta)).alloc (.cells b tb)).alloc (.cells c tc)) (w.heap.size + 2) tc c ∧
    Below w.heap.size w (((w.alloc (.cells a ta)).alloc (.cells b tb)).alloc (.cells c tc)) := by
  refine ⟨((Has.fresh w ta a).alloc _).alloc _, ?_, ?_, (((Below.refl _ _).alloc (Nat.le_refl _) _).alloc (by simp) _).alloc (by simp; omega) _⟩
  · have h := (Has.fresh (w.alloc (.cells a ta)) tb b).alloc (.cells c tc)
    rw [alloc_size] at h
    exact h
  · have h := Has.fresh ((w.alloc (.cells a ta)).alloc (.cells b tb)) tc c
    rw [alloc_size, alloc_size] at h
    exact h
theorem two_new (w : World) (a b : Array Value) (ta tb : TypeId) : Has ((w.alloc (.cells a ta)).alloc (.cells b tb)) w.heap.size ta a ∧ Has ((w.alloc (.cells a ta)).alloc (.cells b tb)) (w.heap.size + 1) tb b ∧
    Below w.heap.size w ((w.alloc (.cells a ta)).alloc (.cells b tb)) := by
  refine ⟨(Has.fresh w ta a).alloc _, ?_, ((Below.refl _ _).alloc (Nat.le_refl _) _).alloc (by simp) _⟩
  have h := Has.fresh (w.alloc (.cells a ta)) tb b
  rw [alloc_size] at h
  exact h
/-- what memory holds in the midst of a sum -/
def AEnv (w : World) (o ys : List Nat) (W : World) : Prop :=
  Has W w.heap.size 38 (us o) ∧ Has W (w.heap.size + 1) 38 (us ys) ∧ Has W (w.heap.size + 2) 38 z4 ∧ Below w.heap.size w W
theorem AEnv.drew {w : World} {o ys : List Nat} {W : World} (h : AEnv w o ys W) : AEnv w o ys W.drew := ⟨h.1, h.2.1, h.2.2.1, h.2.2.2.drew⟩
theorem AEnv.put {w : World} {o ys : List Nat} {W : World} (h : AEnv w o ys W) (j s : Nat) : AEnv w (o.set j s) ys (W.setCell ⟨w.heap.size, j, none⟩ (U64 s)) :=
  ⟨h.1.setU j s, h.2.1.other (by show w.heap.size + 1 ≠ w.heap.size; omega) _, h.2.2.1.other (by show w.heap.size + 2 ≠ w.heap.size; omega) _, h.2.2.2.setCell (Nat.le_refl _) _⟩
set_option maxHeartbeats 1000000 in
theorem added_any (X Y : Nat) (w : World) :
    Calls Try.prog 37 #[.agg (us (dg 18446744073709551616 X 4)), .agg (us (dg 18446744073709551616 Y 4))] w fun e w' => e = .returned (.agg (us (dg 18446744073709551616 (X + Y) 4))) ∧ Below w.heap.size w w' := by
  obtain ⟨xs, hxs⟩ : ∃ xs, xs = dg 18446744073709551616 X 4 := ⟨_, rfl⟩
  obtain ⟨ys, hys⟩ : ∃ ys, ys = dg 18446744073709551616 Y 4 := ⟨_, rfl⟩
  have lx : xs.length = 4 := by rw [hxs, dg_length]
  have ly : ys.length = 4 := by rw [hys, dg_length]
  have dx : Dig 18446744073709551616 xs := by rw [hxs]; exact dg_dig _ _ _ (by omega)
  have dy : Dig 18446744073709551616 ys := by rw [hys]; exact dg_dig _ _ _ (by omega)
  have nx : num 18446744073709551616 xs = X % 18446744073709551616 ^ 4 := by rw [hxs, num_dg]
  have ny : num 18446744073709551616 ys = Y % 18446744073709551616 ^ 4 := by rw [hys, num_dg]
  rw [← hxs, ← hys]
  have hE := three_new w (us xs) (us ys) z4 38 38 38
  obtain ⟨R, hR⟩ : ∃ R, R = dg 18446744073709551616 (X + Y) 4 := ⟨_, rfl⟩
  rw [← hR]
  have hF : ∀ o c, o.length = 4 → Dig 18446744073709551616 o → num 18446744073709551616 (o.take 4) + c * 18446744073709551616 ^ 4 = num 18446744073709551616 (xs.take 4) + num 18446744073709551616 (ys.take 4) → o = R := by
    intro o c lo do' h
    rw [List.take_of_length_le (by omega), List.take_of_length_le (by omega), List.take_of_length_le (by omega), nx, ny] at h
    rw [hR]
    refine dg_of (by omega) do' lo ?_
    have hb := num_lt 18446744073709551616 o do'
    rw [lo] at hb
    have e : (18446744073709551616 : Nat) ^ 4 = 115792089237316195423570985008687907853269984665640564039457584007913129639936 := by decide
    rw [e] at h hb ⊢
    omega
  have HF := Lib.hid hF
  clear hxs hys nx ny hR hF
  go_enter Try.func37, Try.ntmps37
  go_upto_region 2 with fail
  change Code.wp _ _ _ _ (((w.alloc (.cells (us xs) 38)).alloc (.cells (us ys) 38)).alloc (.cells z4 38))
  generalize ((w.alloc (.cells (us xs) 38)).alloc (.cells (us ys) 38)).alloc (.cells z4 38) = w0 at hE ⊢
  go_wp2
  go_loopw [5, 7] (fun c i wr => ∃ (j : Nat) (k : Nat) (o : List Nat), j ≤ 4 ∧ i = .int .i64 (j : Int) ∧ c = U64 k ∧ k ≤ 1 ∧ o.length = 4 ∧ Dig 18446744073709551616 o ∧ num 18446744073709551616 (o.take j) + k * 18446744073709551616 ^ j = num 18446744073709551616 (xs.take j) + num 18446744073709551616 (ys.take j) ∧ o.drop j = xs.drop j ∧ AEnv w o ys wr) (fun _ i _ => 4 - (intOf i).toNat)
  case atStart => exact ⟨0, 0, xs, by omega, rfl, rfl, by omega, lx, dx, by simp [num], rfl, hE⟩
  case round =>
    clear hE w0
    obtain ⟨j, k, o, hj, rfl, rfl, hk, lo, do', hn, hd, E⟩ := hrel
    by_cases hlt : j < 4
    · have hjb : decide ((j : Int) < 4) = true := by simp; omega
      have hj4 : ¬ ((4 : Int) ≤ (j : Int)) := by omega
      have c1 := E.1.drew.u64 j (by omega)
      have c2 := E.2.1.drew.u64 j (by omega)
      have h1 : o.getD j 0 < 18446744073709551616 := do'.getD (by omega) j
      have h2 : ys.getD j 0 < 18446744073709551616 := dy.getD (by omega) j
      have hox := getD_of_drop o xs j j hd (Nat.le_refl _)
      obtain ⟨s, hs⟩ : ∃ s, s = o.getD j 0 + ys.getD j 0 + k := ⟨_, rfl⟩
      have hst := step_add 18446744073709551616 (num 18446744073709551616 (o.take j)) _ k j s hn (o.getD j 0 + ys.getD j 0) hs
      have hs1 : s / 18446744073709551616 ≤ 1 := by omega
      have hs2 : s % 18446744073709551616 < 18446744073709551616 := Nat.mod_lt _ (by omega)
      have hnx : num 18446744073709551616 ((o.set j (s % 18446744073709551616)).take (j + 1)) + s / 18446744073709551616 * 18446744073709551616 ^ (j + 1) = num 18446744073709551616 (xs.take (j + 1)) + num 18446744073709551616 (ys.take (j + 1)) := by
        rw [num_take_set 18446744073709551616 o j _ (by omega), num_take_succ 18446744073709551616 xs j (by omega), num_take_succ 18446744073709551616 ys j (by omega), hst, hox, Nat.add_mul]
        omega
      have hdx : (o.set j (s % 18446744073709551616)).drop (j + 1) = xs.drop (j + 1) := by rw [drop_set_lt o j _ _ (by omega)]; exact drop_succ_of o xs j hd
      have hlo : (o.set j (s % 18446744073709551616)).length = 4 := by rw [List.length_set, lo]
      have hdo := do'.set j hs2
      have hadd := add64_eq (o.getD j 0) (ys.getD j 0) k (s % 18446744073709551616) (s / 18446744073709551616) hk (by rw [hs]) (by rw [hs])
      generalize s % 18446744073709551616 = s0 at hnx hdx hlo hdo hadd hs2
      generalize s / 18446744073709551616 = s1 at hnx hadd hs1
      generalize o.getD j 0 = a at c1 hadd
      generalize ys.getD j 0 = b at c2 hadd
      have HADD := Lib.hid hadd
      have HNX := Lib.hid hnx
      have HDX := Lib.hid hdx
      have HLO := Lib.hid hlo
      have HDO := Lib.hid hdo
      have HE := Lib.hid E.drew
      have HL := Lib.hid lo
      clear hadd hnx hdx hlo hdo hst hox hs hn hd E do' lo h1 h2 hs2
      go_wp2_with fail
      refine wp_region_noPanic ?_
      refine wp_region_gate (c := 8) (S := fun w' => w'.cell? ⟨w.heap.size, j, none⟩ = some (U64 a) ∧ w'.cell? ⟨w.heap.size + 1, j, none⟩ = some (U64 b)) (by kernel_rfl) ⟨c1, c2⟩ (fun hS => ?_)
      clear c1 c2
      refine takeP hS 0 11 (.int .i64 (j : Int)) _ rfl (by kernel_rfl) (by kernel_rfl) (by kernel_rfl) rfl (fun _ _ _ h => h) rfl rfl (fun w' => by go_simp) ?_
      simp only [Act.put, List.setIfInBounds_toArray, List.set_cons_zero, List.set_cons_succ]
      refine takeP hS 1 12 (.int .i64 (j : Int)) _ rfl (by kernel_rfl) (by kernel_rfl) (by kernel_rfl) rfl (fun _ _ _ h => h) rfl rfl (fun w' => by go_simp) ?_
      simp only [Act.put, List.setIfInBounds_toArray, List.set_cons_zero, List.set_cons_succ]
      refine takeP hS 2 13 (.pointer (some ⟨w.heap.size, j, none⟩)) _ rfl (by kernel_rfl) (by kernel_rfl) (by kernel_rfl) rfl (fun _ _ _ h => h) rfl rfl (fun w' => by go_simp) ?_
      simp only [Act.put, List.setIfInBounds_toArray, List.set_cons_zero, List.set_cons_succ]
      refine takeG hS 3 14 (U64 a) _ rfl (by kernel_rfl) (by kernel_rfl) (by kernel_rfl) (by kernel_rfl) (fun _ _ _ h => h) rfl rfl (fun w' h => by obtain ⟨k1, k2⟩ := h; go_simp) ?_
      simp only [Act.put, List.setIfInBounds_toArray, List.set_cons_zero, List.set_cons_succ]
      refine takeP hS 4 15 (.int .i64 (j : Int)) _ rfl (by kernel_rfl) (by kernel_rfl) (by kernel_rfl) rfl (fun _ _ _ h => h) rfl rfl (fun w' => by go_simp) ?_
      simp only [Act.put, List.setIfInBounds_toArray, List.set_cons_zero, List.set_cons_succ]
      refine takeP hS 5 16 (.pointer (some ⟨w.heap.size + 1, j, none⟩)) _ rfl (by kernel_rfl) (by kernel_rfl) (by kernel_rfl) rfl (fun _ _ _ h => h) rfl rfl (fun w' => by go_simp) ?_
      simp only [Act.put, List.setIfInBounds_toArray, List.set_cons_zero, List.set_cons_succ]
      refine takeG hS 6 17 (U64 b) _ rfl (by kernel_rfl) (by kernel_rfl) (by kernel_rfl) (by kernel_rfl) (fun _ _ _ h => h) rfl rfl (fun w' h => by obtain ⟨k1, k2⟩ := h; go_simp) ?_
      simp only [Act.put, List.setIfInBounds_toArray, List.set_cons_zero, List.set_cons_succ]
      refine takeP hS 7 18 (U64 k) _ rfl (by kernel_rfl) (by kernel_rfl) (by kernel_rfl) rfl (fun _ _ _ h => h) rfl rfl (fun w' => by go_simp) ?_
      simp only [Act.put, List.setIfInBounds_toArray, List.set_cons_zero, List.set_cons_succ]
      refine gateVal 19 (.tuple #[U64 s0, U64 s1]) wr.drew _ (by kernel_rfl) rfl rfl rfl (by have := HADD.out wr.drew; go_simp) ?_
      simp only [Act.put, List.setIfInBounds_toArray, List.set_cons_zero, List.set_cons_succ]
      clear hS
      have E := HE.out
      generalize wr.drew = w1 at E ⊢
      refine take0 9 10 (.tuple #[U64 s0, U64 s1]) _ rfl (by kernel_rfl) (by kernel_rfl) (by kernel_rfl) (fun _ _ _ h => h) rfl rfl (fun w' => by go_simp) ?_
      simp only [Act.put, List.setIfInBounds_toArray, List.set_cons_zero, List.set_cons_succ]
      refine take0 10 20 (U64 s0) _ rfl (by kernel_rfl) (by kernel_rfl) (by kernel_rfl) (fun _ _ _ h => h) rfl rfl (fun w' => by go_simp) ?_
      simp only [Act.put, List.setIfInBounds_toArray, List.set_cons_zero, List.set_cons_succ]
      refine take0 11 21 (U64 s1) _ rfl (by kernel_rfl) (by kernel_rfl) (by kernel_rfl) (fun _ _ _ h => h) rfl rfl (fun w' => by go_simp) ?_
      simp only [Act.put, List.setIfInBounds_toArray, List.set_cons_zero, List.set_cons_succ]
      refine take0 12 22 (.pointer (some ⟨w.heap.size, j, none⟩)) _ rfl (by kernel_rfl) (by kernel_rfl) (by kernel_rfl) (fun _ _ _ h => h) rfl rfl (fun w' => by go_simp) ?_
      simp only [Act.put, List.setIfInBounds_toArray, List.set_cons_zero, List.set_cons_succ]
      have cc := E.1.u64 j (by rw [HL.out]; omega)
      have ff := E.1.frozen j
      refine only0 13 (w1.setCell ⟨w.heap.size, j, none⟩ (U64 s0)) _ (by kernel_rfl) rfl rfl rfl (by go_simp) ?_
      clear cc ff
      replace E := E.put j s0
      generalize w1.setCell ⟨w.heap.size, j, none⟩ (U64 s0) = w2 at E ⊢
      simp only [Act.put]
      refine take0 14 5 (U64 s1) _ rfl (by kernel_rfl) (by kernel_rfl) (by kernel_rfl) (fun _ _ _ h => h) rfl rfl (fun w' => by go_simp) ?_
      simp only [Act.put, List.setIfInBounds_toArray, List.set_cons_zero, List.set_cons_succ]
      refine wpAny_end (by kernel_rfl) ?_ _
      refine NoPanic.normal ?_
      go_wp2
      go_roundw
      case rel => exact ⟨j + 1, s1, _, by omega, by go_num, rfl, hs1, HLO.out, HDO.out, HNX.out, HDX.out, E⟩
      case measure => simp [intOf]; omega
    · have hj4 : j = 4 := by omega
      subst hj4
      have hoR := HF.out o k lo do' hn
      subst hoR
      have HL := Lib.hid lo
      clear lo lx ly dx dy hd hn HF do'
      obtain ⟨i1, i2, i3, hb⟩ := E
      go_wp2_with (first
        | (refine wpList_load_row rfl 38 (.tmp 2) rfl w.heap.size rfl 38 (us o) (0, 0) _ i1 Try.underlying38 rfl (info4 o HL.out) ?_)
        | (refine wpList_store_row rfl 38 (.tmp 4) (.tmp 24) rfl (w.heap.size + 2) (us o) rfl rfl 38 z4 i3 (info4 o HL.out) (z4_size o HL.out) (us_one o) ?_))
      refine bodyPost_ret (v := .agg (us o)) (results_cell_row rfl _ _ (w.heap.size + 2) 38 (us o) (0, 0) _ rfl (i3.setRow _) Try.underlying38 rfl (info4 o HL.out)) rfl ⟨rfl, below_setRow hb (by omega) _⟩
end Go.Proofs.Ytdikkdediofieaa

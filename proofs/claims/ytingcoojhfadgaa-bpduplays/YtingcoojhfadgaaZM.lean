/- The document's Less and Print: walked. -/
import Derived.Test.YtingcoojhfadgaaZH
namespace Go.Proofs.Ytingcoojhfadgaa
open Go.RowKit
set_option maxRecDepth 20000 in
set_option maxHeartbeats 2000000 in
theorem refLess_any (a b : List UInt8) (ha : a.length = 8) (hb : b.length = 8) (w : World) : Calls Try.prog 17 #[.agg (bs a), .agg (bs b)] w fun e w' => e = .returned (.bool (lessL a b)) ∧ Below w.heap.size w w' := by
  have M : Mem w [(w.heap.size, 22, bs a), (w.heap.size + 1, 22, bs b)] ((w.alloc (.cells (bs a) 22)).alloc (.cells (bs b) 22)) :=
    ((Mem.init w).alloc _ rfl _ _).alloc _ (by simp) _ _
  obtain ⟨P, hP⟩ : ∃ P : Nat → Bool, ∀ k, lessL (a.drop k) (b.drop k) = P k := ⟨fun k => lessL (a.drop k) (b.drop k), fun _ => rfl⟩
  have h0 : lessL a b = P 0 := hP 0
  have h8 : P 8 = false := by rw [← hP, List.drop_of_length_le (by omega)]; rfl
  have hst : ∀ k, k < 8 → P k = if a.getD k 0 = b.getD k 0 then P (k + 1) else decide ((a.getD k 0).toNat < (b.getD k 0).toNat) := fun k hk => by
    rw [← hP, ← hP]
    exact lessL_step a b k (by omega) (by omega)
  rw [h0]
  clear h0 hP
  have HST := Lib.hid hst
  have H8 := Lib.hid h8
  have HA := Lib.hid ha
  have HB := Lib.hid hb
  clear hst h8 ha hb
  go_enter Try.func17, Try.ntmps17
  go_upto_region 1 with fail
  change Code.wp _ _ _ _ ((w.alloc (.cells (bs a) 22)).alloc (.cells (bs b) 22))
  generalize (w.alloc (.cells (bs a) 22)).alloc (.cells (bs b) 22) = W0 at M ⊢
  generalize w.heap.size + 1 = gb at M ⊢
  go_upto_region 2 with fail
  go_loopw [5] (fun i wr => ∃ k : Nat, k ≤ 8 ∧ P k = P 0 ∧ i = .int .i64 (k : Int) ∧ Mem w [(w.heap.size, 22, bs a), (gb, 22, bs b)] wr) (fun i _ => 8 - (intOf i).toNat)
  case atStart => exact ⟨0, by omega, rfl, rfl, M⟩
  case round =>
    obtain ⟨k, hk, hpk, rfl, M⟩ := hrel
    by_cases hlt : k < 8
    · have t1 : decide ((k : Int) < 8) = true := by simp; omega
      have tk : (k : Int) < 8 := by omega
      have hs := HST.out k hlt
      obtain ⟨x, hx⟩ : ∃ x, a.getD k 0 = x := ⟨_, rfl⟩
      obtain ⟨y, hy⟩ : ∃ y, b.getD k 0 = y := ⟨_, rfl⟩
      rw [hx, hy] at hs
      have HX := Lib.hid hx
      have HY := Lib.hid hy
      clear hx hy
      by_cases e : x = y
      · rw [if_pos e] at hs
        have t2 : ((x.toNat : Int) != (y.toNat : Int)) = false := by rw [e]; simp
        rw [hs] at hpk
        have HP := Lib.hid hpk
        clear hs hpk e
        go_upto_region 4 with fail
        refine wp_region_noPanic ?_
        refine wp_region_flow (fin := ?fin1) 7 0 (by kernel_rfl) [.inl (.int .i64 (k : Int)),
          .inl (.pointer (some ⟨w.heap.size, k, none⟩)),
          .inl (.int .u8 (x.toNat : Int)),
          .inl (.int .i64 (k : Int)),
          .inl (.pointer (some ⟨gb, k, none⟩)),
          .inl (.int .u8 (y.toNat : Int)),
          .inl (.bool false)] rfl rfl (by kernel_rfl) ?hfin1 ?hE1 ?hend1
        case hfin1 =>
          intro G
          simp only [flowAll, flowVal, Act.put, List.setIfInBounds_toArray, List.set_cons_zero, List.set_cons_succ]
          exact rfl
        case hE1 =>
          intro G
          refine ⟨Or.inr (fun W hB hR => known_val rfl (by go_simp)),
            Or.inr (fun W hB hR => known_val rfl (by go_simp)),
            Or.inr (fun W hB hR => known_val rfl (by have h1 : W.cell? ⟨w.heap.size, k, none⟩ = some (.int .u8 (x.toNat : Int)) := (by have h2 := ((M.drew.step hB).row 0 rfl).byte k (by rw [HA.out]; exact hlt); rw [HX.out] at h2; exact h2); go_simp)),
            Or.inr (fun W hB hR => known_val rfl (by go_simp)),
            Or.inr (fun W hB hR => known_val rfl (by go_simp)),
            Or.inr (fun W hB hR => known_val rfl (by have h1 : W.cell? ⟨gb, k, none⟩ = some (.int .u8 (y.toNat : Int)) := (by have h2 := ((M.drew.step hB).row 1 rfl).byte k (by rw [HB.out]; exact hlt); rw [HY.out] at h2; exact h2); go_simp)),
            Or.inr (fun W hB hR => known_val rfl (by go_simp)), trivial⟩
        intro G W hB hM
        replace M := M.drew.step hB
        clear hB hM G
        refine wpAny_end (by kernel_rfl) ?_ _
        refine NoPanic.normal ?_
        go_wp2
        go_roundw
        case rel => exact ⟨k + 1, by omega, HP.out, by go_num, M⟩
        case measure => simp [intOf]; omega
      · rw [if_neg e] at hs
        have t2 : ((x.toNat : Int) != (y.toNat : Int)) = true := by simp only [bne_iff_ne, ne_eq]; intro h; exact e (UInt8.toNat_inj.1 (by omega))
        rw [hs] at hpk
        have hd : decide ((x.toNat : Int) < (y.toNat : Int)) = decide (x.toNat < y.toNat) := by simp
        have HP := Lib.hid (hd.trans hpk)
        clear hs hpk e hd
        go_upto_region 4 with fail
        refine wp_region_noPanic ?_
        refine wp_region_flow (fin := ?fin2) 7 0 (by kernel_rfl) [.inl (.int .i64 (k : Int)),
          .inl (.pointer (some ⟨w.heap.size, k, none⟩)),
          .inl (.int .u8 (x.toNat : Int)),
          .inl (.int .i64 (k : Int)),
          .inl (.pointer (some ⟨gb, k, none⟩)),
          .inl (.int .u8 (y.toNat : Int)),
          .inl (.bool true)] rfl rfl (by kernel_rfl) ?hfin2 ?hE2 ?hend2
        case hfin2 =>
          intro G
          simp only [flowAll, flowVal, Act.put, List.setIfInBounds_toArray, List.set_cons_zero, List.set_cons_succ]
          exact rfl
        case hE2 =>
          intro G
          refine ⟨Or.inr (fun W hB hR => known_val rfl (by go_simp)),
            Or.inr (fun W hB hR => known_val rfl (by go_simp)),
            Or.inr (fun W hB hR => known_val rfl (by have h1 : W.cell? ⟨w.heap.size, k, none⟩ = some (.int .u8 (x.toNat : Int)) := (by have h2 := ((M.drew.step hB).row 0 rfl).byte k (by rw [HA.out]; exact hlt); rw [HX.out] at h2; exact h2); go_simp)),
            Or.inr (fun W hB hR => known_val rfl (by go_simp)),
            Or.inr (fun W hB hR => known_val rfl (by go_simp)),
            Or.inr (fun W hB hR => known_val rfl (by have h1 : W.cell? ⟨gb, k, none⟩ = some (.int .u8 (y.toNat : Int)) := (by have h2 := ((M.drew.step hB).row 1 rfl).byte k (by rw [HB.out]; exact hlt); rw [HY.out] at h2; exact h2); go_simp)),
            Or.inr (fun W hB hR => known_val rfl (by go_simp)), trivial⟩
        intro G W hB hM
        replace M := M.drew.step hB
        clear hB hM G
        refine wpAny_end (by kernel_rfl) ?_ _
        refine NoPanic.normal ?_
        clear t2
        go_upto_region 5 with fail
        refine wp_region_noPanic ?_
        refine wp_region_flow (fin := ?fin3) 8 0 (by kernel_rfl) [.inl (.int .i64 (k : Int)),
          .inl (.pointer (some ⟨w.heap.size, k, none⟩)),
          .inl (.int .u8 (x.toNat : Int)),
          .inl (.int .i64 (k : Int)),
          .inl (.pointer (some ⟨gb, k, none⟩)),
          .inl (.int .u8 (y.toNat : Int)),
          .inl (.bool (decide ((x.toNat : Int) < (y.toNat : Int)))),
          .inl (.bool (decide ((x.toNat : Int) < (y.toNat : Int))))] rfl rfl (by kernel_rfl) ?hfin3 ?hE3 ?hend3
        case hfin3 =>
          intro G
          simp only [flowAll, flowVal, Act.put, List.setIfInBounds_toArray, List.set_cons_zero, List.set_cons_succ]
          exact rfl
        case hE3 =>
          intro G
          refine ⟨Or.inr (fun W hB hR => known_val rfl (by go_simp)),
            Or.inr (fun W hB hR => known_val rfl (by go_simp)),
            Or.inr (fun W hB hR => known_val rfl (by have h1 : W.cell? ⟨w.heap.size, k, none⟩ = some (.int .u8 (x.toNat : Int)) := (by have h2 := ((M.drew.step hB).row 0 rfl).byte k (by rw [HA.out]; exact hlt); rw [HX.out] at h2; exact h2); go_simp)),
            Or.inr (fun W hB hR => known_val rfl (by go_simp)),
            Or.inr (fun W hB hR => known_val rfl (by go_simp)),
            Or.inr (fun W hB hR => known_val rfl (by have h1 : W.cell? ⟨gb, k, none⟩ = some (.int .u8 (y.toNat : Int)) := (by have h2 := ((M.drew.step hB).row 1 rfl).byte k (by rw [HB.out]; exact hlt); rw [HY.out] at h2; exact h2); go_simp)),
            Or.inr (fun W hB hR => known_val rfl (by go_simp)),
            Or.inr (fun W hB hR => known_val rfl (by go_simp)), trivial⟩
        intro G W hB hM
        replace M := M.drew.step hB
        clear hB hM G
        refine wpAny_end (by kernel_rfl) ?_ _
        refine NoPanic.normal ?_
        rw [HP.out]
        go_wp2
        go_ret
        exact ⟨rfl, M.below⟩
    · have hk2 : k = 8 := by omega
      subst hk2
      have HP := Lib.hid (hpk.symm.trans H8.out)
      have HM := Lib.hid M.below
      clear hlt hpk M
      go_wp2
      go_ret
      exact ⟨by rw [HP.out]; rfl, HM.out⟩
theorem refBytes_int (n : Int) (z : Nat) (L : Int) (hz : z ≤ 8) (hL : L ≤ 4294967295) (h : 0 ≤ n ∧ n ≤ L) (w : World) : Calls Try.prog 27 #[.int .i64 n, .int .i64 (z : Int)] w fun e w' => e = .returned (.string ⟨(beTail n.toNat z).toArray⟩) ∧ Below w.heap.size w w' := by
  have := refBytes_any n.toNat z hz (by omega) w
  rw [Int.toNat_of_nonneg h.1] at this
  exact this
set_option maxRecDepth 20000 in
set_option maxHeartbeats 2000000 in
theorem refPrint11_ff (x : B11) (hx : x.Fit) (R : x.Right) (hc : x.ch = false) (ha : x.ack = false) (w : World) : Calls Try.prog 19 #[.agg x.c] w fun e w' => e = .returned (.string ⟨x.bytes.toArray⟩) ∧ Below w.heap.size w w' := by
  have M : Mem w [(w.heap.size, 24, x.c)] (w.alloc (.cells x.c 24)) := (Mem.init w).alloc _ rfl _ _
  have r0 := M.row 0 rfl
  have c8 := r0.b_ch hx
  have c9 := r0.b_ack hx
  rw [hc] at c8
  rw [ha] at c9
  have q1 := fun W => refBytes_int x.cost 4 4294967295 (by omega) (by omega) R.cost W
  have q2 := fun W => refBytes_int x.port 2 65535 (by omega) (by omega) R.port W
  have q3 := fun W => refBytes_int x.age 2 65535 (by omega) (by omega) R.age W
  have q4 := fun W => refBytes_int x.top 2 65535 (by omega) (by omega) R.top W
  have q5 := fun W => refBytes_int x.hello 2 65535 (by omega) (by omega) R.hello W
  have q6 := fun W => refBytes_int x.delay 2 65535 (by omega) (by omega) R.delay W
  have hbytes : x.bytes = (((((((wordL ++ [0]) ++ x.r) ++ beTail x.cost.toNat 4) ++ x.b) ++ beTail x.port.toNat 2) ++ beTail x.age.toNat 2) ++ beTail x.top.toNat 2) ++ beTail x.hello.toNat 2 ++ beTail x.delay.toNat 2 := by
    rw [bytes_body, show x.flag = 0 from by unfold B11.flag; rw [hc, ha]; rfl]
    simp only [List.append_assoc]
  have lr := hx.r
  have lb := hx.b
  have l1 := beTail_length x.cost.toNat 4
  generalize beTail x.cost.toNat 4 = T1 at *
  have l2 := beTail_length x.port.toNat 2
  generalize beTail x.port.toNat 2 = T2 at *
  have l3 := beTail_length x.age.toNat 2
  generalize beTail x.age.toNat 2 = T3 at *
  have l4 := beTail_length x.top.toNat 2
  generalize beTail x.top.toNat 2 = T4 at *
  have l5 := beTail_length x.hello.toNat 2
  generalize beTail x.hello.toNat 2 = T5 at *
  have l6 := beTail_length x.delay.toNat 2
  generalize beTail x.delay.toNat 2 = T6 at *
  generalize x.bytes = R0 at hbytes ⊢
  have c1 : (⟨wordL.toArray⟩ : ByteArray) ++ ⟨[(0 : UInt8)].toArray⟩ = ⟨(wordL ++ [0]).toArray⟩ := cat_str _ _
  have s1 : (wordL ++ [(0 : UInt8)]).length = 8 := rfl
  generalize wordL ++ [(0 : UInt8)] = V1 at c1 s1 hbytes
  have c2' : (⟨V1.toArray⟩ : ByteArray) ++ ⟨x.r.toArray⟩ = ⟨(V1 ++ x.r).toArray⟩ := cat_str _ _
  have b2 : ¬ (9223372036854775807 < (⟨V1.toArray⟩ : ByteArray).size + (⟨x.r.toArray⟩ : ByteArray).size) := by rw [str_size, str_size, s1, lr]; decide
  have s2 : (V1 ++ x.r).length = 16 := by rw [List.length_append]; omega
  generalize V1 ++ x.r = V2 at c2' s2 hbytes
  have C2 := Lib.hid (And.intro c2' b2)
  have c3' : (⟨V2.toArray⟩ : ByteArray) ++ ⟨T1.toArray⟩ = ⟨(V2 ++ T1).toArray⟩ := cat_str _ _
  have b3 : ¬ (9223372036854775807 < (⟨V2.toArray⟩ : ByteArray).size + (⟨T1.toArray⟩ : ByteArray).size) := by rw [str_size, str_size, s2, l1]; decide
  have s3 : (V2 ++ T1).length = 20 := by rw [List.length_append]; omega
  generalize V2 ++ T1 = V3 at c3' s3 hbytes
  have C3 := Lib.hid (And.intro c3' b3)
  have c4' : (⟨V3.toArray⟩ : ByteArray) ++ ⟨x.b.toArray⟩ = ⟨(V3 ++ x.b).toArray⟩ := cat_str _ _
  have b4 : ¬ (9223372036854775807 < (⟨V3.toArray⟩ : ByteArray).size + (⟨x.b.toArray⟩ : ByteArray).size) := by rw [str_size, str_size, s3, lb]; decide
  have s4 : (V3 ++ x.b).length = 28 := by rw [List.length_append]; omega
  generalize V3 ++ x.b = V4 at c4' s4 hbytes
  have C4 := Lib.hid (And.intro c4' b4)
  have c5' : (⟨V4.toArray⟩ : ByteArray) ++ ⟨T2.toArray⟩ = ⟨(V4 ++ T2).toArray⟩ := cat_str _ _
  have b5 : ¬ (9223372036854775807 < (⟨V4.toArray⟩ : ByteArray).size + (⟨T2.toArray⟩ : ByteArray).size) := by rw [str_size, str_size, s4, l2]; decide
  have s5 : (V4 ++ T2).length = 30 := by rw [List.length_append]; omega
  generalize V4 ++ T2 = V5 at c5' s5 hbytes
  have C5 := Lib.hid (And.intro c5' b5)
  have c6' : (⟨V5.toArray⟩ : ByteArray) ++ ⟨T3.toArray⟩ = ⟨(V5 ++ T3).toArray⟩ := cat_str _ _
  have b6 : ¬ (9223372036854775807 < (⟨V5.toArray⟩ : ByteArray).size + (⟨T3.toArray⟩ : ByteArray).size) := by rw [str_size, str_size, s5, l3]; decide
  have s6 : (V5 ++ T3).length = 32 := by rw [List.length_append]; omega
  generalize V5 ++ T3 = V6 at c6' s6 hbytes
  have C6 := Lib.hid (And.intro c6' b6)
  have c7' : (⟨V6.toArray⟩ : ByteArray) ++ ⟨T4.toArray⟩ = ⟨(V6 ++ T4).toArray⟩ := cat_str _ _
  have b7 : ¬ (9223372036854775807 < (⟨V6.toArray⟩ : ByteArray).size + (⟨T4.toArray⟩ : ByteArray).size) := by rw [str_size, str_size, s6, l4]; decide
  have s7 : (V6 ++ T4).length = 34 := by rw [List.length_append]; omega
  generalize V6 ++ T4 = V7 at c7' s7 hbytes
  have C7 := Lib.hid (And.intro c7' b7)
  have c8' : (⟨V7.toArray⟩ : ByteArray) ++ ⟨T5.toArray⟩ = ⟨(V7 ++ T5).toArray⟩ := cat_str _ _
  have b8 : ¬ (9223372036854775807 < (⟨V7.toArray⟩ : ByteArray).size + (⟨T5.toArray⟩ : ByteArray).size) := by rw [str_size, str_size, s7, l5]; decide
  have s8 : (V7 ++ T5).length = 36 := by rw [List.length_append]; omega
  generalize V7 ++ T5 = V8 at c8' s8 hbytes
  have C8 := Lib.hid (And.intro c8' b8)
  have c9' : (⟨V8.toArray⟩ : ByteArray) ++ ⟨T6.toArray⟩ = ⟨(V8 ++ T6).toArray⟩ := cat_str _ _
  have b9 : ¬ (9223372036854775807 < (⟨V8.toArray⟩ : ByteArray).size + (⟨T6.toArray⟩ : ByteArray).size) := by rw [str_size, str_size, s8, l6]; decide
  rw [← hbytes] at c9'
  have C9 := Lib.hid (And.intro c9' b9)
  have C1 := Lib.hid (And.intro c1 (show ¬ (9223372036854775807 < (⟨wordL.toArray⟩ : ByteArray).size + (⟨[(0 : UInt8)].toArray⟩ : ByteArray).size) by rw [str_size, str_size]; show ¬ 9223372036854775807 < 7 + 1; decide))
  have Q1 := Lib.hid q1
  have Q2 := Lib.hid q2
  have Q3 := Lib.hid q3
  have Q4 := Lib.hid q4
  have Q5 := Lib.hid q5
  have Q6 := Lib.hid q6
  have HL := Lib.hid (And.intro lr lb)
  clear R hc ha r0 c1 c2' c3' c4' c5' c6' c7' c8' c9' b2 b3 b4 b5 b6 b7 b8 b9 s1 s2 s3 s4 s5 s6 s7 s8 q1 l1 q2 l2 q3 l3 q4 l4 q5 l5 q6 l6 lr lb hbytes
  go_enter Try.func19, Try.ntmps19
  go_upto_region 6 with fail
  clear c8 c9
  change Code.wp _ _ _ _ (w.alloc (.cells x.c 24))
  generalize w.alloc (.cells x.c 24) = W0 at M ⊢
  refine wp_region_noPanic ?_
  refine wp_region_flow (fin := ?fin4) 38 0 (by kernel_rfl) [.inl (.int .i64 0),
    .inl (.int .u8 0),
    .inr (5, bs [0], some 1),
    .inl (.string ⟨[(0 : UInt8)].toArray⟩),
    .inl (.string ⟨V1.toArray⟩),
    .inl (.pointer (some ⟨w.heap.size, 0, none⟩)),
    .inl (.slice (some ⟨w.heap.size, 0, none⟩) 8 8),
    .inl (.string ⟨x.r.toArray⟩),
    .inl (.string ⟨V2.toArray⟩),
    .inl (.pointer (some ⟨w.heap.size, 16, none⟩)),
    .inl (.int .i64 x.cost),
    .inl (.string ⟨T1.toArray⟩),
    .inl (.string ⟨V3.toArray⟩),
    .inl (.pointer (some ⟨w.heap.size, 8, none⟩)),
    .inl (.slice (some ⟨w.heap.size, 8, none⟩) 8 8),
    .inl (.string ⟨x.b.toArray⟩),
    .inl (.string ⟨V4.toArray⟩),
    .inl (.pointer (some ⟨w.heap.size, 17, none⟩)),
    .inl (.int .i64 x.port),
    .inl (.string ⟨T2.toArray⟩),
    .inl (.string ⟨V5.toArray⟩),
    .inl (.pointer (some ⟨w.heap.size, 18, none⟩)),
    .inl (.int .i64 x.age),
    .inl (.string ⟨T3.toArray⟩),
    .inl (.string ⟨V6.toArray⟩),
    .inl (.pointer (some ⟨w.heap.size, 19, none⟩)),
    .inl (.int .i64 x.top),
    .inl (.string ⟨T4.toArray⟩),
    .inl (.string ⟨V7.toArray⟩),
    .inl (.pointer (some ⟨w.heap.size, 20, none⟩)),
    .inl (.int .i64 x.hello),
    .inl (.string ⟨T5.toArray⟩),
    .inl (.string ⟨V8.toArray⟩),
    .inl (.pointer (some ⟨w.heap.size, 21, none⟩)),
    .inl (.int .i64 x.delay),
    .inl (.string ⟨T6.toArray⟩),
    .inl (.string ⟨R0.toArray⟩),
    .inl (.string ⟨R0.toArray⟩)] rfl rfl (by kernel_rfl) ?hfin4 ?hE4 ?hend4
  case hfin4 =>
    intro G
    simp only [flowAll, flowVal, Act.put, List.setIfInBounds_toArray, List.set_cons_zero, List.set_cons_succ]
    exact rfl
  case hE4 =>
    intro G
    refine ⟨Or.inr (fun W hB hR => known_val rfl (by go_simp)),
      Or.inr (fun W hB hR => known_val rfl (by have h9 : IntKind.u8.wrap 0 = 0 := (by decide +kernel); go_simp)),
      ⟨rfl, fun W => made_slice (by unfold execOp; go_simp; rfl)⟩,
      Or.inr (fun W hB hR => known_val rfl (by have hrow := conv_bytes (hR 2 _ _ _ rfl (by kernel_rfl)) 1 1 rfl; go_simp)),
      Or.inr (fun W hB hR => known_val rfl (by exact exec_cat (.const (.string ⟨wordL.toArray⟩)) (.tmp 15) _ _ _ C1.out.1 C1.out.2 rfl rfl rfl)),
      Or.inr (fun W hB hR => known_val rfl (by go_simp)),
      Or.inr (fun W hB hR => known_val rfl (by go_simp)),
      Or.inr (fun W hB hR => known_val rfl (by have := conv_range (((M.drew.step hB).row 0 rfl).b_r) 8 8 HL.out.1; go_simp)),
      Or.inr (fun W hB hR => known_val rfl (by exact exec_cat (.tmp 16) (.tmp 19) _ _ _ C2.out.1 C2.out.2 rfl rfl rfl)),
      Or.inr (fun W hB hR => known_val rfl (by go_simp)),
      Or.inr (fun W hB hR => known_val rfl (by have := ((M.drew.step hB).row 0 rfl).b_cost hx; go_simp)),
      Or.inr (fun W hB hR => known_call 27 #[.int .i64 x.cost, .int .i64 4] (Q1.out W) rfl (by go_simp)),
      Or.inr (fun W hB hR => known_val rfl (by exact exec_cat (.tmp 20) (.tmp 23) _ _ _ C3.out.1 C3.out.2 rfl rfl rfl)),
      Or.inr (fun W hB hR => known_val rfl (by go_simp)),
      Or.inr (fun W hB hR => known_val rfl (by go_simp)),
      Or.inr (fun W hB hR => known_val rfl (by have := conv_range (((M.drew.step hB).row 0 rfl).b_b hx) 8 8 HL.out.2; go_simp)),
      Or.inr (fun W hB hR => known_val rfl (by exact exec_cat (.tmp 24) (.tmp 27) _ _ _ C4.out.1 C4.out.2 rfl rfl rfl)),
      Or.inr (fun W hB hR => known_val rfl (by go_simp)),
      Or.inr (fun W hB hR => known_val rfl (by have := ((M.drew.step hB).row 0 rfl).b_port hx; go_simp)),
      Or.inr (fun W hB hR => known_call 27 #[.int .i64 x.port, .int .i64 2] (Q2.out W) rfl (by go_simp)),
      Or.inr (fun W hB hR => known_val rfl (by exact exec_cat (.tmp 28) (.tmp 31) _ _ _ C5.out.1 C5.out.2 rfl rfl rfl)),
      Or.inr (fun W hB hR => known_val rfl (by go_simp)),
      Or.inr (fun W hB hR => known_val rfl (by have := ((M.drew.step hB).row 0 rfl).b_age hx; go_simp)),
      Or.inr (fun W hB hR => known_call 27 #[.int .i64 x.age, .int .i64 2] (Q3.out W) rfl (by go_simp)),
      Or.inr (fun W hB hR => known_val rfl (by exact exec_cat (.tmp 32) (.tmp 35) _ _ _ C6.out.1 C6.out.2 rfl rfl rfl)),
      Or.inr (fun W hB hR => known_val rfl (by go_simp)),
      Or.inr (fun W hB hR => known_val rfl (by have := ((M.drew.step hB).row 0 rfl).b_top hx; go_simp)),
      Or.inr (fun W hB hR => known_call 27 #[.int .i64 x.top, .int .i64 2] (Q4.out W) rfl (by go_simp)),
      Or.inr (fun W hB hR => known_val rfl (by exact exec_cat (.tmp 36) (.tmp 39) _ _ _ C7.out.1 C7.out.2 rfl rfl rfl)),
      Or.inr (fun W hB hR => known_val rfl (by go_simp)),
      Or.inr (fun W hB hR => known_val rfl (by have := ((M.drew.step hB).row 0 rfl).b_hello hx; go_simp)),
      Or.inr (fun W hB hR => known_call 27 #[.int .i64 x.hello, .int .i64 2] (Q5.out W) rfl (by go_simp)),
      Or.inr (fun W hB hR => known_val rfl (by exact exec_cat (.tmp 40) (.tmp 43) _ _ _ C8.out.1 C8.out.2 rfl rfl rfl)),
      Or.inr (fun W hB hR => known_val rfl (by go_simp)),
      Or.inr (fun W hB hR => known_val rfl (by have := ((M.drew.step hB).row 0 rfl).b_delay hx; go_simp)),
      Or.inr (fun W hB hR => known_call 27 #[.int .i64 x.delay, .int .i64 2] (Q6.out W) rfl (by go_simp)),
      Or.inr (fun W hB hR => known_val rfl (by exact exec_cat (.tmp 44) (.tmp 47) _ _ _ C9.out.1 C9.out.2 rfl rfl rfl)),
      Or.inr (fun W hB hR => known_val rfl (by go_simp)), trivial⟩
  intro G W hB hM
  replace M := M.drew.step hB
  clear hB hM
  refine wpAny_end (by kernel_rfl) ?_ _
  refine NoPanic.normal ?_
  go_wp2
  go_ret
  exact ⟨rfl, M.below⟩
set_option maxRecDepth 20000 in
set_option maxHeartbeats 2000000 in
theorem refPrint11_ft (x : B11) (hx : x.Fit) (R : x.Right) (hc : x.ch = false) (ha : x.ack = true) (w : World) : Calls Try.prog 19 #[.agg x.c] w fun e w' => e = .returned (.string ⟨x.bytes.toArray⟩) ∧ Below w.heap.size w w' := by
  have M : Mem w [(w.heap.size, 24, x.c)] (w.alloc (.cells x.c 24)) := (Mem.init w).alloc _ rfl _ _
  have r0 := M.row 0 rfl
  have c8 := r0.b_ch hx
  have c9 := r0.b_ack hx
  rw [hc] at c8
  rw [ha] at c9
  have q1 := fun W => refBytes_int x.cost 4 4294967295 (by omega) (by omega) R.cost W
  have q2 := fun W => refBytes_int x.port 2 65535 (by omega) (by omega) R.port W
  have q3 := fun W => refBytes_int x.age 2 65535 (by omega) (by omega) R.age W
  have q4 := fun W => refBytes_int x.top 2 65535 (by omega) (by omega) R.top W
  have q5 := fun W => refBytes_int x.hello 2 65535 (by omega) (by omega) R.hello W
  have q6 := fun W => refBytes_int x.delay 2 65535 (by omega) (by omega) R.delay W
  have hbytes : x.bytes = (((((((wordL ++ [128]) ++ x.r) ++ beTail x.cost.toNat 4) ++ x.b) ++ beTail x.port.toNat 2) ++ beTail x.age.toNat 2) ++ beTail x.top.toNat 2) ++ beTail x.hello.toNat 2 ++ beTail x.delay.toNat 2 := by
    rw [bytes_body, show x.flag = 128 from by unfold B11.flag; rw [hc, ha]; rfl]
    simp only [List.append_assoc]
  have lr := hx.r
  have lb := hx.b
  have l1 := beTail_length x.cost.toNat 4
  generalize beTail x.cost.toNat 4 = T1 at *
  have l2 := beTail_length x.port.toNat 2
  generalize beTail x.port.toNat 2 = T2 at *
  have l3 := beTail_length x.age.toNat 2
  generalize beTail x.age.toNat 2 = T3 at *
  have l4 := beTail_length x.top.toNat 2
  generalize beTail x.top.toNat 2 = T4 at *
  have l5 := beTail_length x.hello.toNat 2
  generalize beTail x.hello.toNat 2 = T5 at *
  have l6 := beTail_length x.delay.toNat 2
  generalize beTail x.delay.toNat 2 = T6 at *
  generalize x.bytes = R0 at hbytes ⊢
  have c1 : (⟨wordL.toArray⟩ : ByteArray) ++ ⟨[(128 : UInt8)].toArray⟩ = ⟨(wordL ++ [128]).toArray⟩ := cat_str _ _
  have s1 : (wordL ++ [(128 : UInt8)]).length = 8 := rfl
  generalize wordL ++ [(128 : UInt8)] = V1 at c1 s1 hbytes
  have c2' : (⟨V1.toArray⟩ : ByteArray) ++ ⟨x.r.toArray⟩ = ⟨(V1 ++ x.r).toArray⟩ := cat_str _ _
  have b2 : ¬ (9223372036854775807 < (⟨V1.toArray⟩ : ByteArray).size + (⟨x.r.toArray⟩ : ByteArray).size) := by rw [str_size, str_size, s1, lr]; decide
  have s2 : (V1 ++ x.r).length = 16 := by rw [List.length_append]; omega
  generalize V1 ++ x.r = V2 at c2' s2 hbytes
  have C2 := Lib.hid (And.intro c2' b2)
  have c3' : (⟨V2.toArray⟩ : ByteArray) ++ ⟨T1.toArray⟩ = ⟨(V2 ++ T1).toArray⟩ := cat_str _ _
  have b3 : ¬ (9223372036854775807 < (⟨V2.toArray⟩ : ByteArray).size + (⟨T1.toArray⟩ : ByteArray).size) := by rw [str_size, str_size, s2, l1]; decide
  have s3 : (V2 ++ T1).length = 20 := by rw [List.length_append]; omega
  generalize V2 ++ T1 = V3 at c3' s3 hbytes
  have C3 := Lib.hid (And.intro c3' b3)
  have c4' : (⟨V3.toArray⟩ : ByteArray) ++ ⟨x.b.toArray⟩ = ⟨(V3 ++ x.b).toArray⟩ := cat_str _ _
  have b4 : ¬ (9223372036854775807 < (⟨V3.toArray⟩ : ByteArray).size + (⟨x.b.toArray⟩ : ByteArray).size) := by rw [str_size, str_size, s3, lb]; decide
  have s4 : (V3 ++ x.b).length = 28 := by rw [List.length_append]; omega
  generalize V3 ++ x.b = V4 at c4' s4 hbytes
  have C4 := Lib.hid (And.intro c4' b4)
  have c5' : (⟨V4.toArray⟩ : ByteArray) ++ ⟨T2.toArray⟩ = ⟨(V4 ++ T2).toArray⟩ := cat_str _ _
  have b5 : ¬ (9223372036854775807 < (⟨V4.toArray⟩ : ByteArray).size + (⟨T2.toArray⟩ : ByteArray).size) := by rw [str_size, str_size, s4, l2]; decide
  have s5 : (V4 ++ T2).length = 30 := by rw [List.length_append]; omega
  generalize V4 ++ T2 = V5 at c5' s5 hbytes
  have C5 := Lib.hid (And.intro c5' b5)
  have c6' : (⟨V5.toArray⟩ : ByteArray) ++ ⟨T3.toArray⟩ = ⟨(V5 ++ T3).toArray⟩ := cat_str _ _
  have b6 : ¬ (9223372036854775807 < (⟨V5.toArray⟩ : ByteArray).size + (⟨T3.toArray⟩ : ByteArray).size) := by rw [str_size, str_size, s5, l3]; decide
  have s6 : (V5 ++ T3).length = 32 := by rw [List.length_append]; omega
  generalize V5 ++ T3 = V6 at c6' s6 hbytes
  have C6 := Lib.hid (And.intro c6' b6)
  have c7' : (⟨V6.toArray⟩ : ByteArray) ++ ⟨T4.toArray⟩ = ⟨(V6 ++ T4).toArray⟩ := cat_str _ _
  have b7 : ¬ (9223372036854775807 < (⟨V6.toArray⟩ : ByteArray).size + (⟨T4.toArray⟩ : ByteArray).size) := by rw [str_size, str_size, s6, l4]; decide
  have s7 : (V6 ++ T4).length = 34 := by rw [List.length_append]; omega
  generalize V6 ++ T4 = V7 at c7' s7 hbytes
  have C7 := Lib.hid (And.intro c7' b7)
  have c8' : (⟨V7.toArray⟩ : ByteArray) ++ ⟨T5.toArray⟩ = ⟨(V7 ++ T5).toArray⟩ := cat_str _ _
  have b8 : ¬ (9223372036854775807 < (⟨V7.toArray⟩ : ByteArray).size + (⟨T5.toArray⟩ : ByteArray).size) := by rw [str_size, str_size, s7, l5]; decide
  have s8 : (V7 ++ T5).length = 36 := by rw [List.length_append]; omega
  generalize V7 ++ T5 = V8 at c8' s8 hbytes
  have C8 := Lib.hid (And.intro c8' b8)
  have c9' : (⟨V8.toArray⟩ : ByteArray) ++ ⟨T6.toArray⟩ = ⟨(V8 ++ T6).toArray⟩ := cat_str _ _
  have b9 : ¬ (9223372036854775807 < (⟨V8.toArray⟩ : ByteArray).size + (⟨T6.toArray⟩ : ByteArray).size) := by rw [str_size, str_size, s8, l6]; decide
  rw [← hbytes] at c9'
  have C9 := Lib.hid (And.intro c9' b9)
  have C1 := Lib.hid (And.intro c1 (show ¬ (9223372036854775807 < (⟨wordL.toArray⟩ : ByteArray).size + (⟨[(128 : UInt8)].toArray⟩ : ByteArray).size) by rw [str_size, str_size]; show ¬ 9223372036854775807 < 7 + 1; decide))
  have Q1 := Lib.hid q1
  have Q2 := Lib.hid q2
  have Q3 := Lib.hid q3
  have Q4 := Lib.hid q4
  have Q5 := Lib.hid q5
  have Q6 := Lib.hid q6
  have HL := Lib.hid (And.intro lr lb)
  clear R hc ha r0 c1 c2' c3' c4' c5' c6' c7' c8' c9' b2 b3 b4 b5 b6 b7 b8 b9 s1 s2 s3 s4 s5 s6 s7 s8 q1 l1 q2 l2 q3 l3 q4 l4 q5 l5 q6 l6 lr lb hbytes
  go_enter Try.func19, Try.ntmps19
  go_upto_region 6 with fail
  clear c8 c9
  change Code.wp _ _ _ _ (w.alloc (.cells x.c 24))
  generalize w.alloc (.cells x.c 24) = W0 at M ⊢
  refine wp_region_noPanic ?_
  refine wp_region_flow (fin := ?fin5) 38 0 (by kernel_rfl) [.inl (.int .i64 128),
    .inl (.int .u8 128),
    .inr (5, bs [128], some 1),
    .inl (.string ⟨[(128 : UInt8)].toArray⟩),
    .inl (.string ⟨V1.toArray⟩),
    .inl (.pointer (some ⟨w.heap.size, 0, none⟩)),
    .inl (.slice (some ⟨w.heap.size, 0, none⟩) 8 8),
    .inl (.string ⟨x.r.toArray⟩),
    .inl (.string ⟨V2.toArray⟩),
    .inl (.pointer (some ⟨w.heap.size, 16, none⟩)),
    .inl (.int .i64 x.cost),
    .inl (.string ⟨T1.toArray⟩),
    .inl (.string ⟨V3.toArray⟩),
    .inl (.pointer (some ⟨w.heap.size, 8, none⟩)),
    .inl (.slice (some ⟨w.heap.size, 8, none⟩) 8 8),
    .inl (.string ⟨x.b.toArray⟩),
    .inl (.string ⟨V4.toArray⟩),
    .inl (.pointer (some ⟨w.heap.size, 17, none⟩)),
    .inl (.int .i64 x.port),
    .inl (.string ⟨T2.toArray⟩),
    .inl (.string ⟨V5.toArray⟩),
    .inl (.pointer (some ⟨w.heap.size, 18, none⟩)),
    .inl (.int .i64 x.age),
    .inl (.string ⟨T3.toArray⟩),
    .inl (.string ⟨V6.toArray⟩),
    .inl (.pointer (some ⟨w.heap.size, 19, none⟩)),
    .inl (.int .i64 x.top),
    .inl (.string ⟨T4.toArray⟩),
    .inl (.string ⟨V7.toArray⟩),
    .inl (.pointer (some ⟨w.heap.size, 20, none⟩)),
    .inl (.int .i64 x.hello),
    .inl (.string ⟨T5.toArray⟩),
    .inl (.string ⟨V8.toArray⟩),
    .inl (.pointer (some ⟨w.heap.size, 21, none⟩)),
    .inl (.int .i64 x.delay),
    .inl (.string ⟨T6.toArray⟩),
    .inl (.string ⟨R0.toArray⟩),
    .inl (.string ⟨R0.toArray⟩)] rfl rfl (by kernel_rfl) ?hfin5 ?hE5 ?hend5
  case hfin5 =>
    intro G
    simp only [flowAll, flowVal, Act.put, List.setIfInBounds_toArray, List.set_cons_zero, List.set_cons_succ]
    exact rfl
  case hE5 =>
    intro G
    refine ⟨Or.inr (fun W hB hR => known_val rfl (by go_simp)),
      Or.inr (fun W hB hR => known_val rfl (by have h9 : IntKind.u8.wrap 128 = 128 := (by decide +kernel); go_simp)),
      ⟨rfl, fun W => made_slice (by unfold execOp; go_simp; rfl)⟩,
      Or.inr (fun W hB hR => known_val rfl (by have hrow := conv_bytes (hR 2 _ _ _ rfl (by kernel_rfl)) 1 1 rfl; go_simp)),
      Or.inr (fun W hB hR => known_val rfl (by exact exec_cat (.const (.string ⟨wordL.toArray⟩)) (.tmp 15) _ _ _ C1.out.1 C1.out.2 rfl rfl rfl)),
      Or.inr (fun W hB hR => known_val rfl (by go_simp)),
      Or.inr (fun W hB hR => known_val rfl (by go_simp)),
      Or.inr (fun W hB hR => known_val rfl (by have := conv_range (((M.drew.step hB).row 0 rfl).b_r) 8 8 HL.out.1; go_simp)),
      Or.inr (fun W hB hR => known_val rfl (by exact exec_cat (.tmp 16) (.tmp 19) _ _ _ C2.out.1 C2.out.2 rfl rfl rfl)),
      Or.inr (fun W hB hR => known_val rfl (by go_simp)),
      Or.inr (fun W hB hR => known_val rfl (by have := ((M.drew.step hB).row 0 rfl).b_cost hx; go_simp)),
      Or.inr (fun W hB hR => known_call 27 #[.int .i64 x.cost, .int .i64 4] (Q1.out W) rfl (by go_simp)),
      Or.inr (fun W hB hR => known_val rfl (by exact exec_cat (.tmp 20) (.tmp 23) _ _ _ C3.out.1 C3.out.2 rfl rfl rfl)),
      Or.inr (fun W hB hR => known_val rfl (by go_simp)),
      Or.inr (fun W hB hR => known_val rfl (by go_simp)),
      Or.inr (fun W hB hR => known_val rfl (by have := conv_range (((M.drew.step hB).row 0 rfl).b_b hx) 8 8 HL.out.2; go_simp)),
      Or.inr (fun W hB hR => known_val rfl (by exact exec_cat (.tmp 24) (.tmp 27) _ _ _ C4.out.1 C4.out.2 rfl rfl rfl)),
      Or.inr (fun W hB hR => known_val rfl (by go_simp)),
      Or.inr (fun W hB hR => known_val rfl (by have := ((M.drew.step hB).row 0 rfl).b_port hx; go_simp)),
      Or.inr (fun W hB hR => known_call 27 #[.int .i64 x.port, .int .i64 2] (Q2.out W) rfl (by go_simp)),
      Or.inr (fun W hB hR => known_val rfl (by exact exec_cat (.tmp 28) (.tmp 31) _ _ _ C5.out.1 C5.out.2 rfl rfl rfl)),
      Or.inr (fun W hB hR => known_val rfl (by go_simp)),
      Or.inr (fun W hB hR => known_val rfl (by have := ((M.drew.step hB).row 0 rfl).b_age hx; go_simp)),
      Or.inr (fun W hB hR => known_call 27 #[.int .i64 x.age, .int .i64 2] (Q3.out W) rfl (by go_simp)),
      Or.inr (fun W hB hR => known_val rfl (by exact exec_cat (.tmp 32) (.tmp 35) _ _ _ C6.out.1 C6.out.2 rfl rfl rfl)),
      Or.inr (fun W hB hR => known_val rfl (by go_simp)),
      Or.inr (fun W hB hR => known_val rfl (by have := ((M.drew.step hB).row 0 rfl).b_top hx; go_simp)),
      Or.inr (fun W hB hR => known_call 27 #[.int .i64 x.top, .int .i64 2] (Q4.out W) rfl (by go_simp)),
      Or.inr (fun W hB hR => known_val rfl (by exact exec_cat (.tmp 36) (.tmp 39) _ _ _ C7.out.1 C7.out.2 rfl rfl rfl)),
      Or.inr (fun W hB hR => known_val rfl (by go_simp)),
      Or.inr (fun W hB hR => known_val rfl (by have := ((M.drew.step hB).row 0 rfl).b_hello hx; go_simp)),
      Or.inr (fun W hB hR => known_call 27 #[.int .i64 x.hello, .int .i64 2] (Q5.out W) rfl (by go_simp)),
      Or.inr (fun W hB hR => known_val rfl (by exact exec_cat (.tmp 40) (.tmp 43) _ _ _ C8.out.1 C8.out.2 rfl rfl rfl)),
      Or.inr (fun W hB hR => known_val rfl (by go_simp)),
      Or.inr (fun W hB hR => known_val rfl (by have := ((M.drew.step hB).row 0 rfl).b_delay hx; go_simp)),
      Or.inr (fun W hB hR => known_call 27 #[.int .i64 x.delay, .int .i64 2] (Q6.out W) rfl (by go_simp)),
      Or.inr (fun W hB hR => known_val rfl (by exact exec_cat (.tmp 44) (.tmp 47) _ _ _ C9.out.1 C9.out.2 rfl rfl rfl)),
      Or.inr (fun W hB hR => known_val rfl (by go_simp)), trivial⟩
  intro G W hB hM
  replace M := M.drew.step hB
  clear hB hM
  refine wpAny_end (by kernel_rfl) ?_ _
  refine NoPanic.normal ?_
  go_wp2
  go_ret
  exact ⟨rfl, M.below⟩
set_option maxRecDepth 20000 in
set_option maxHeartbeats 2000000 in
theorem refPrint11_tf (x : B11) (hx : x.Fit) (R : x.Right) (hc : x.ch = true) (ha : x.ack = false) (w : World) : Calls Try.prog 19 #[.agg x.c] w fun e w' => e = .returned (.string ⟨x.bytes.toArray⟩) ∧ Below w.heap.size w w' := by
  have M : Mem w [(w.heap.size, 24, x.c)] (w.alloc (.cells x.c 24)) := (Mem.init w).alloc _ rfl _ _
  have r0 := M.row 0 rfl
  have c8 := r0.b_ch hx
  have c9 := r0.b_ack hx
  rw [hc] at c8
  rw [ha] at c9
  have q1 := fun W => refBytes_int x.cost 4 4294967295 (by omega) (by omega) R.cost W
  have q2 := fun W => refBytes_int x.port 2 65535 (by omega) (by omega) R.port W
  have q3 := fun W => refBytes_int x.age 2 65535 (by omega) (by omega) R.age W
  have q4 := fun W => refBytes_int x.top 2 65535 (by omega) (by omega) R.top W
  have q5 := fun W => refBytes_int x.hello 2 65535 (by omega) (by omega) R.hello W
  have q6 := fun W => refBytes_int x.delay 2 65535 (by omega) (by omega) R.delay W
  have hbytes : x.bytes = (((((((wordL ++ [1]) ++ x.r) ++ beTail x.cost.toNat 4) ++ x.b) ++ beTail x.port.toNat 2) ++ beTail x.age.toNat 2) ++ beTail x.top.toNat 2) ++ beTail x.hello.toNat 2 ++ beTail x.delay.toNat 2 := by
    rw [bytes_body, show x.flag = 1 from by unfold B11.flag; rw [hc, ha]; rfl]
    simp only [List.append_assoc]
  have lr := hx.r
  have lb := hx.b
  have l1 := beTail_length x.cost.toNat 4
  generalize beTail x.cost.toNat 4 = T1 at *
  have l2 := beTail_length x.port.toNat 2
  generalize beTail x.port.toNat 2 = T2 at *
  have l3 := beTail_length x.age.toNat 2
  generalize beTail x.age.toNat 2 = T3 at *
  have l4 := beTail_length x.top.toNat 2
  generalize beTail x.top.toNat 2 = T4 at *
  have l5 := beTail_length x.hello.toNat 2
  generalize beTail x.hello.toNat 2 = T5 at *
  have l6 := beTail_length x.delay.toNat 2
  generalize beTail x.delay.toNat 2 = T6 at *
  generalize x.bytes = R0 at hbytes ⊢
  have c1 : (⟨wordL.toArray⟩ : ByteArray) ++ ⟨[(1 : UInt8)].toArray⟩ = ⟨(wordL ++ [1]).toArray⟩ := cat_str _ _
  have s1 : (wordL ++ [(1 : UInt8)]).length = 8 := rfl
  generalize wordL ++ [(1 : UInt8)] = V1 at c1 s1 hbytes
  have c2' : (⟨V1.toArray⟩ : ByteArray) ++ ⟨x.r.toArray⟩ = ⟨(V1 ++ x.r).toArray⟩ := cat_str _ _
  have b2 : ¬ (9223372036854775807 < (⟨V1.toArray⟩ : ByteArray).size + (⟨x.r.toArray⟩ : ByteArray).size) := by rw [str_size, str_size, s1, lr]; decide
  have s2 : (V1 ++ x.r).length = 16 := by rw [List.length_append]; omega
  generalize V1 ++ x.r = V2 at c2' s2 hbytes
  have C2 := Lib.hid (And.intro c2' b2)
  have c3' : (⟨V2.toArray⟩ : ByteArray) ++ ⟨T1.toArray⟩ = ⟨(V2 ++ T1).toArray⟩ := cat_str _ _
  have b3 : ¬ (9223372036854775807 < (⟨V2.toArray⟩ : ByteArray).size + (⟨T1.toArray⟩ : ByteArray).size) := by rw [str_size, str_size, s2, l1]; decide
  have s3 : (V2 ++ T1).length = 20 := by rw [List.length_append]; omega
  generalize V2 ++ T1 = V3 at c3' s3 hbytes
  have C3 := Lib.hid (And.intro c3' b3)
  have c4' : (⟨V3.toArray⟩ : ByteArray) ++ ⟨x.b.toArray⟩ = ⟨(V3 ++ x.b).toArray⟩ := cat_str _ _
  have b4 : ¬ (9223372036854775807 < (⟨V3.toArray⟩ : ByteArray).size + (⟨x.b.toArray⟩ : ByteArray).size) := by rw [str_size, str_size, s3, lb]; decide
  have s4 : (V3 ++ x.b).length = 28 := by rw [List.length_append]; omega
  generalize V3 ++ x.b = V4 at c4' s4 hbytes
  have C4 := Lib.hid (And.intro c4' b4)
  have c5' : (⟨V4.toArray⟩ : ByteArray) ++ ⟨T2.toArray⟩ = ⟨(V4 ++ T2).toArray⟩ := cat_str _ _
  have b5 : ¬ (9223372036854775807 < (⟨V4.toArray⟩ : ByteArray).size + (⟨T2.toArray⟩ : ByteArray).size) := by rw [str_size, str_size, s4, l2]; decide
  have s5 : (V4 ++ T2).length = 30 := by rw [List.length_append]; omega
  generalize V4 ++ T2 = V5 at c5' s5 hbytes
  have C5 := Lib.hid (And.intro c5' b5)
  have c6' : (⟨V5.toArray⟩ : ByteArray) ++ ⟨T3.toArray⟩ = ⟨(V5 ++ T3).toArray⟩ := cat_str _ _
  have b6 : ¬ (9223372036854775807 < (⟨V5.toArray⟩ : ByteArray).size + (⟨T3.toArray⟩ : ByteArray).size) := by rw [str_size, str_size, s5, l3]; decide
  have s6 : (V5 ++ T3).length = 32 := by rw [List.length_append]; omega
  generalize V5 ++ T3 = V6 at c6' s6 hbytes
  have C6 := Lib.hid (And.intro c6' b6)
  have c7' : (⟨V6.toArray⟩ : ByteArray) ++ ⟨T4.toArray⟩ = ⟨(V6 ++ T4).toArray⟩ := cat_str _ _
  have b7 : ¬ (9223372036854775807 < (⟨V6.toArray⟩ : ByteArray).size + (⟨T4.toArray⟩ : ByteArray).size) := by rw [str_size, str_size, s6, l4]; decide
  have s7 : (V6 ++ T4).length = 34 := by rw [List.length_append]; omega
  generalize V6 ++ T4 = V7 at c7' s7 hbytes
  have C7 := Lib.hid (And.intro c7' b7)
  have c8' : (⟨V7.toArray⟩ : ByteArray) ++ ⟨T5.toArray⟩ = ⟨(V7 ++ T5).toArray⟩ := cat_str _ _
  have b8 : ¬ (9223372036854775807 < (⟨V7.toArray⟩ : ByteArray).size + (⟨T5.toArray⟩ : ByteArray).size) := by rw [str_size, str_size, s7, l5]; decide
  have s8 : (V7 ++ T5).length = 36 := by rw [List.length_append]; omega
  generalize V7 ++ T5 = V8 at c8' s8 hbytes
  have C8 := Lib.hid (And.intro c8' b8)
  have c9' : (⟨V8.toArray⟩ : ByteArray) ++ ⟨T6.toArray⟩ = ⟨(V8 ++ T6).toArray⟩ := cat_str _ _
  have b9 : ¬ (9223372036854775807 < (⟨V8.toArray⟩ : ByteArray).size + (⟨T6.toArray⟩ : ByteArray).size) := by rw [str_size, str_size, s8, l6]; decide
  rw [← hbytes] at c9'
  have C9 := Lib.hid (And.intro c9' b9)
  have C1 := Lib.hid (And.intro c1 (show ¬ (9223372036854775807 < (⟨wordL.toArray⟩ : ByteArray).size + (⟨[(1 : UInt8)].toArray⟩ : ByteArray).size) by rw [str_size, str_size]; show ¬ 9223372036854775807 < 7 + 1; decide))
  have Q1 := Lib.hid q1
  have Q2 := Lib.hid q2
  have Q3 := Lib.hid q3
  have Q4 := Lib.hid q4
  have Q5 := Lib.hid q5
  have Q6 := Lib.hid q6
  have HL := Lib.hid (And.intro lr lb)
  clear R hc ha r0 c1 c2' c3' c4' c5' c6' c7' c8' c9' b2 b3 b4 b5 b6 b7 b8 b9 s1 s2 s3 s4 s5 s6 s7 s8 q1 l1 q2 l2 q3 l3 q4 l4 q5 l5 q6 l6 lr lb hbytes
  go_enter Try.func19, Try.ntmps19
  go_upto_region 6 with fail
  clear c8 c9
  change Code.wp _ _ _ _ (w.alloc (.cells x.c 24))
  generalize w.alloc (.cells x.c 24) = W0 at M ⊢
  refine wp_region_noPanic ?_
  refine wp_region_flow (fin := ?fin6) 38 0 (by kernel_rfl) [.inl (.int .i64 1),
    .inl (.int .u8 1),
    .inr (5, bs [1], some 1),
    .inl (.string ⟨[(1 : UInt8)].toArray⟩),
    .inl (.string ⟨V1.toArray⟩),
    .inl (.pointer (some ⟨w.heap.size, 0, none⟩)),
    .inl (.slice (some ⟨w.heap.size, 0, none⟩) 8 8),
    .inl (.string ⟨x.r.toArray⟩),
    .inl (.string ⟨V2.toArray⟩),
    .inl (.pointer (some ⟨w.heap.size, 16, none⟩)),
    .inl (.int .i64 x.cost),
    .inl (.string ⟨T1.toArray⟩),
    .inl (.string ⟨V3.toArray⟩),
    .inl (.pointer (some ⟨w.heap.size, 8, none⟩)),
    .inl (.slice (some ⟨w.heap.size, 8, none⟩) 8 8),
    .inl (.string ⟨x.b.toArray⟩),
    .inl (.string ⟨V4.toArray⟩),
    .inl (.pointer (some ⟨w.heap.size, 17, none⟩)),
    .inl (.int .i64 x.port),
    .inl (.string ⟨T2.toArray⟩),
    .inl (.string ⟨V5.toArray⟩),
    .inl (.pointer (some ⟨w.heap.size, 18, none⟩)),
    .inl (.int .i64 x.age),
    .inl (.string ⟨T3.toArray⟩),
    .inl (.string ⟨V6.toArray⟩),
    .inl (.pointer (some ⟨w.heap.size, 19, none⟩)),
    .inl (.int .i64 x.top),
    .inl (.string ⟨T4.toArray⟩),
    .inl (.string ⟨V7.toArray⟩),
    .inl (.pointer (some ⟨w.heap.size, 20, none⟩)),
    .inl (.int .i64 x.hello),
    .inl (.string ⟨T5.toArray⟩),
    .inl (.string ⟨V8.toArray⟩),
    .inl (.pointer (some ⟨w.heap.size, 21, none⟩)),
    .inl (.int .i64 x.delay),
    .inl (.string ⟨T6.toArray⟩),
    .inl (.string ⟨R0.toArray⟩),
    .inl (.string ⟨R0.toArray⟩)] rfl rfl (by kernel_rfl) ?hfin6 ?hE6 ?hend6
  case hfin6 =>
    intro G
    simp only [flowAll, flowVal, Act.put, List.setIfInBounds_toArray, List.set_cons_zero, List.set_cons_succ]
    exact rfl
  case hE6 =>
    intro G
    refine ⟨Or.inr (fun W hB hR => known_val rfl (by go_simp)),
      Or.inr (fun W hB hR => known_val rfl (by have h9 : IntKind.u8.wrap 1 = 1 := (by decide +kernel); go_simp)),
      ⟨rfl, fun W => made_slice (by unfold execOp; go_simp; rfl)⟩,
      Or.inr (fun W hB hR => known_val rfl (by have hrow := conv_bytes (hR 2 _ _ _ rfl (by kernel_rfl)) 1 1 rfl; go_simp)),
      Or.inr (fun W hB hR => known_val rfl (by exact exec_cat (.const (.string ⟨wordL.toArray⟩)) (.tmp 15) _ _ _ C1.out.1 C1.out.2 rfl rfl rfl)),
      Or.inr (fun W hB hR => known_val rfl (by go_simp)),
      Or.inr (fun W hB hR => known_val rfl (by go_simp)),
      Or.inr (fun W hB hR => known_val rfl (by have := conv_range (((M.drew.step hB).row 0 rfl).b_r) 8 8 HL.out.1; go_simp)),
      Or.inr (fun W hB hR => known_val rfl (by exact exec_cat (.tmp 16) (.tmp 19) _ _ _ C2.out.1 C2.out.2 rfl rfl rfl)),
      Or.inr (fun W hB hR => known_val rfl (by go_simp)),
      Or.inr (fun W hB hR => known_val rfl (by have := ((M.drew.step hB).row 0 rfl).b_cost hx; go_simp)),
      Or.inr (fun W hB hR => known_call 27 #[.int .i64 x.cost, .int .i64 4] (Q1.out W) rfl (by go_simp)),
      Or.inr (fun W hB hR => known_val rfl (by exact exec_cat (.tmp 20) (.tmp 23) _ _ _ C3.out.1 C3.out.2 rfl rfl rfl)),
      Or.inr (fun W hB hR => known_val rfl (by go_simp)),
      Or.inr (fun W hB hR => known_val rfl (by go_simp)),
      Or.inr (fun W hB hR => known_val rfl (by have := conv_range (((M.drew.step hB).row 0 rfl).b_b hx) 8 8 HL.out.2; go_simp)),
      Or.inr (fun W hB hR => known_val rfl (by exact exec_cat (.tmp 24) (.tmp 27) _ _ _ C4.out.1 C4.out.2 rfl rfl rfl)),
      Or.inr (fun W hB hR => known_val rfl (by go_simp)),
      Or.inr (fun W hB hR => known_val rfl (by have := ((M.drew.step hB).row 0 rfl).b_port hx; go_simp)),
      Or.inr (fun W hB hR => known_call 27 #[.int .i64 x.port, .int .i64 2] (Q2.out W) rfl (by go_simp)),
      Or.inr (fun W hB hR => known_val rfl (by exact exec_cat (.tmp 28) (.tmp 31) _ _ _ C5.out.1 C5.out.2 rfl rfl rfl)),
      Or.inr (fun W hB hR => known_val rfl (by go_simp)),
      Or.inr (fun W hB hR => known_val rfl (by have := ((M.drew.step hB).row 0 rfl).b_age hx; go_simp)),
      Or.inr (fun W hB hR => known_call 27 #[.int .i64 x.age, .int .i64 2] (Q3.out W) rfl (by go_simp)),
      Or.inr (fun W hB hR => known_val rfl (by exact exec_cat (.tmp 32) (.tmp 35) _ _ _ C6.out.1 C6.out.2 rfl rfl rfl)),
      Or.inr (fun W hB hR => known_val rfl (by go_simp)),
      Or.inr (fun W hB hR => known_val rfl (by have := ((M.drew.step hB).row 0 rfl).b_top hx; go_simp)),
      Or.inr (fun W hB hR => known_call 27 #[.int .i64 x.top, .int .i64 2] (Q4.out W) rfl (by go_simp)),
      Or.inr (fun W hB hR => known_val rfl (by exact exec_cat (.tmp 36) (.tmp 39) _ _ _ C7.out.1 C7.out.2 rfl rfl rfl)),
      Or.inr (fun W hB hR => known_val rfl (by go_simp)),
      Or.inr (fun W hB hR => known_val rfl (by have := ((M.drew.step hB).row 0 rfl).b_hello hx; go_simp)),
      Or.inr (fun W hB hR => known_call 27 #[.int .i64 x.hello, .int .i64 2] (Q5.out W) rfl (by go_simp)),
      Or.inr (fun W hB hR => known_val rfl (by exact exec_cat (.tmp 40) (.tmp 43) _ _ _ C8.out.1 C8.out.2 rfl rfl rfl)),
      Or.inr (fun W hB hR => known_val rfl (by go_simp)),
      Or.inr (fun W hB hR => known_val rfl (by have := ((M.drew.step hB).row 0 rfl).b_delay hx; go_simp)),
      Or.inr (fun W hB hR => known_call 27 #[.int .i64 x.delay, .int .i64 2] (Q6.out W) rfl (by go_simp)),
      Or.inr (fun W hB hR => known_val rfl (by exact exec_cat (.tmp 44) (.tmp 47) _ _ _ C9.out.1 C9.out.2 rfl rfl rfl)),
      Or.inr (fun W hB hR => known_val rfl (by go_simp)), trivial⟩
  intro G W hB hM
  replace M := M.drew.step hB
  clear hB hM
  refine wpAny_end (by kernel_rfl) ?_ _
  refine NoPanic.normal ?_
  go_wp2
  go_ret
  exact ⟨rfl, M.below⟩
set_option maxRecDepth 20000 in
set_option maxHeartbeats 2000000 in
theorem refPrint11_tt (x : B11) (hx : x.Fit) (R : x.Right) (hc : x.ch = true) (ha : x.ack = true) (w : World) : Calls Try.prog 19 #[.agg x.c] w fun e w' => e = .returned (.string ⟨x.bytes.toArray⟩) ∧ Below w.heap.size w w' := by
  have M : Mem w [(w.heap.size, 24, x.c)] (w.alloc (.cells x.c 24)) := (Mem.init w).alloc _ rfl _ _
  have r0 := M.row 0 rfl
  have c8 := r0.b_ch hx
  have c9 := r0.b_ack hx
  rw [hc] at c8
  rw [ha] at c9
  have q1 := fun W => refBytes_int x.cost 4 4294967295 (by omega) (by omega) R.cost W
  have q2 := fun W => refBytes_int x.port 2 65535 (by omega) (by omega) R.port W
  have q3 := fun W => refBytes_int x.age 2 65535 (by omega) (by omega) R.age W
  have q4 := fun W => refBytes_int x.top 2 65535 (by omega) (by omega) R.top W
  have q5 := fun W => refBytes_int x.hello 2 65535 (by omega) (by omega) R.hello W
  have q6 := fun W => refBytes_int x.delay 2 65535 (by omega) (by omega) R.delay W
  have hbytes : x.bytes = (((((((wordL ++ [129]) ++ x.r) ++ beTail x.cost.toNat 4) ++ x.b) ++ beTail x.port.toNat 2) ++ beTail x.age.toNat 2) ++ beTail x.top.toNat 2) ++ beTail x.hello.toNat 2 ++ beTail x.delay.toNat 2 := by
    rw [bytes_body, show x.flag = 129 from by unfold B11.flag; rw [hc, ha]; rfl]
    simp only [List.append_assoc]
  have lr := hx.r
  have lb := hx.b
  have l1 := beTail_length x.cost.toNat 4
  generalize beTail x.cost.toNat 4 = T1 at *
  have l2 := beTail_length x.port.toNat 2
  generalize beTail x.port.toNat 2 = T2 at *
  have l3 := beTail_length x.age.toNat 2
  generalize beTail x.age.toNat 2 = T3 at *
  have l4 := beTail_length x.top.toNat 2
  generalize beTail x.top.toNat 2 = T4 at *
  have l5 := beTail_length x.hello.toNat 2
  generalize beTail x.hello.toNat 2 = T5 at *
  have l6 := beTail_length x.delay.toNat 2
  generalize beTail x.delay.toNat 2 = T6 at *
  generalize x.bytes = R0 at hbytes ⊢
  have c1 : (⟨wordL.toArray⟩ : ByteArray) ++ ⟨[(129 : UInt8)].toArray⟩ = ⟨(wordL ++ [129]).toArray⟩ := cat_str _ _
  have s1 : (wordL ++ [(129 : UInt8)]).length = 8 := rfl
  generalize wordL ++ [(129 : UInt8)] = V1 at c1 s1 hbytes
  have c2' : (⟨V1.toArray⟩ : ByteArray) ++ ⟨x.r.toArray⟩ = ⟨(V1 ++ x.r).toArray⟩ := cat_str _ _
  have b2 : ¬ (9223372036854775807 < (⟨V1.toArray⟩ : ByteArray).size + (⟨x.r.toArray⟩ : ByteArray).size) := by rw [str_size, str_size, s1, lr]; decide
  have s2 : (V1 ++ x.r).length = 16 := by rw [List.length_append]; omega
  generalize V1 ++ x.r = V2 at c2' s2 hbytes
  have C2 := Lib.hid (And.intro c2' b2)
  have c3' : (⟨V2.toArray⟩ : ByteArray) ++ ⟨T1.toArray⟩ = ⟨(V2 ++ T1).toArray⟩ := cat_str _ _
  have b3 : ¬ (9223372036854775807 < (⟨V2.toArray⟩ : ByteArray).size + (⟨T1.toArray⟩ : ByteArray).size) := by rw [str_size, str_size, s2, l1]; decide
  have s3 : (V2 ++ T1).length = 20 := by rw [List.length_append]; omega
  generalize V2 ++ T1 = V3 at c3' s3 hbytes
  have C3 := Lib.hid (And.intro c3' b3)
  have c4' : (⟨V3.toArray⟩ : ByteArray) ++ ⟨x.b.toArray⟩ = ⟨(V3 ++ x.b).toArray⟩ := cat_str _ _
  have b4 : ¬ (9223372036854775807 < (⟨V3.toArray⟩ : ByteArray).size + (⟨x.b.toArray⟩ : ByteArray).size) := by rw [str_size, str_size, s3, lb]; decide
  have s4 : (V3 ++ x.b).length = 28 := by rw [List.length_append]; omega
  generalize V3 ++ x.b = V4 at c4' s4 hbytes
  have C4 := Lib.hid (And.intro c4' b4)
  have c5' : (⟨V4.toArray⟩ : ByteArray) ++ ⟨T2.toArray⟩ = ⟨(V4 ++ T2).toArray⟩ := cat_str _ _
  have b5 : ¬ (9223372036854775807 < (⟨V4.toArray⟩ : ByteArray).size + (⟨T2.toArray⟩ : ByteArray).size) := by rw [str_size, str_size, s4, l2]; decide
  have s5 : (V4 ++ T2).length = 30 := by rw [List.length_append]; omega
  generalize V4 ++ T2 = V5 at c5' s5 hbytes
  have C5 := Lib.hid (And.intro c5' b5)
  have c6' : (⟨V5.toArray⟩ : ByteArray) ++ ⟨T3.toArray⟩ = ⟨(V5 ++ T3).toArray⟩ := cat_str _ _
  have b6 : ¬ (9223372036854775807 < (⟨V5.toArray⟩ : ByteArray).size + (⟨T3.toArray⟩ : ByteArray).size) := by rw [str_size, str_size, s5, l3]; decide
  have s6 : (V5 ++ T3).length = 32 := by rw [List.length_append]; omega
  generalize V5 ++ T3 = V6 at c6' s6 hbytes
  have C6 := Lib.hid (And.intro c6' b6)
  have c7' : (⟨V6.toArray⟩ : ByteArray) ++ ⟨T4.toArray⟩ = ⟨(V6 ++ T4).toArray⟩ := cat_str _ _
  have b7 : ¬ (9223372036854775807 < (⟨V6.toArray⟩ : ByteArray).size + (⟨T4.toArray⟩ : ByteArray).size) := by rw [str_size, str_size, s6, l4]; decide
  have s7 : (V6 ++ T4).length = 34 := by rw [List.length_append]; omega
  generalize V6 ++ T4 = V7 at c7' s7 hbytes
  have C7 := Lib.hid (And.intro c7' b7)
  have c8' : (⟨V7.toArray⟩ : ByteArray) ++ ⟨T5.toArray⟩ = ⟨(V7 ++ T5).toArray⟩ := cat_str _ _
  have b8 : ¬ (9223372036854775807 < (⟨V7.toArray⟩ : ByteArray).size + (⟨T5.toArray⟩ : ByteArray).size) := by rw [str_size, str_size, s7, l5]; decide
  have s8 : (V7 ++ T5).length = 36 := by rw [List.length_append]; omega
  generalize V7 ++ T5 = V8 at c8' s8 hbytes
  have C8 := Lib.hid (And.intro c8' b8)
  have c9' : (⟨V8.toArray⟩ : ByteArray) ++ ⟨T6.toArray⟩ = ⟨(V8 ++ T6).toArray⟩ := cat_str _ _
  have b9 : ¬ (9223372036854775807 < (⟨V8.toArray⟩ : ByteArray).size + (⟨T6.toArray⟩ : ByteArray).size) := by rw [str_size, str_size, s8, l6]; decide
  rw [← hbytes] at c9'
  have C9 := Lib.hid (And.intro c9' b9)
  have C1 := Lib.hid (And.intro c1 (show ¬ (9223372036854775807 < (⟨wordL.toArray⟩ : ByteArray).size + (⟨[(129 : UInt8)].toArray⟩ : ByteArray).size) by rw [str_size, str_size]; show ¬ 9223372036854775807 < 7 + 1; decide))
  have Q1 := Lib.hid q1
  have Q2 := Lib.hid q2
  have Q3 := Lib.hid q3
  have Q4 := Lib.hid q4
  have Q5 := Lib.hid q5
  have Q6 := Lib.hid q6
  have HL := Lib.hid (And.intro lr lb)
  clear R hc ha r0 c1 c2' c3' c4' c5' c6' c7' c8' c9' b2 b3 b4 b5 b6 b7 b8 b9 s1 s2 s3 s4 s5 s6 s7 s8 q1 l1 q2 l2 q3 l3 q4 l4 q5 l5 q6 l6 lr lb hbytes
  go_enter Try.func19, Try.ntmps19
  go_upto_region 6 with fail
  clear c8 c9
  change Code.wp _ _ _ _ (w.alloc (.cells x.c 24))
  generalize w.alloc (.cells x.c 24) = W0 at M ⊢
  refine wp_region_noPanic ?_
  refine wp_region_flow (fin := ?fin7) 38 0 (by kernel_rfl) [.inl (.int .i64 129),
    .inl (.int .u8 129),
    .inr (5, bs [129], some 1),
    .inl (.string ⟨[(129 : UInt8)].toArray⟩),
    .inl (.string ⟨V1.toArray⟩),
    .inl (.pointer (some ⟨w.heap.size, 0, none⟩)),
    .inl (.slice (some ⟨w.heap.size, 0, none⟩) 8 8),
    .inl (.string ⟨x.r.toArray⟩),
    .inl (.string ⟨V2.toArray⟩),
    .inl (.pointer (some ⟨w.heap.size, 16, none⟩)),
    .inl (.int .i64 x.cost),
    .inl (.string ⟨T1.toArray⟩),
    .inl (.string ⟨V3.toArray⟩),
    .inl (.pointer (some ⟨w.heap.size, 8, none⟩)),
    .inl (.slice (some ⟨w.heap.size, 8, none⟩) 8 8),
    .inl (.string ⟨x.b.toArray⟩),
    .inl (.string ⟨V4.toArray⟩),
    .inl (.pointer (some ⟨w.heap.size, 17, none⟩)),
    .inl (.int .i64 x.port),
    .inl (.string ⟨T2.toArray⟩),
    .inl (.string ⟨V5.toArray⟩),
    .inl (.pointer (some ⟨w.heap.size, 18, none⟩)),
    .inl (.int .i64 x.age),
    .inl (.string ⟨T3.toArray⟩),
    .inl (.string ⟨V6.toArray⟩),
    .inl (.pointer (some ⟨w.heap.size, 19, none⟩)),
    .inl (.int .i64 x.top),
    .inl (.string ⟨T4.toArray⟩),
    .inl (.string ⟨V7.toArray⟩),
    .inl (.pointer (some ⟨w.heap.size, 20, none⟩)),
    .inl (.int .i64 x.hello),
    .inl (.string ⟨T5.toArray⟩),
    .inl (.string ⟨V8.toArray⟩),
    .inl (.pointer (some ⟨w.heap.size, 21, none⟩)),
    .inl (.int .i64 x.delay),
    .inl (.string ⟨T6.toArray⟩),
    .inl (.string ⟨R0.toArray⟩),
    .inl (.string ⟨R0.toArray⟩)] rfl rfl (by kernel_rfl) ?hfin7 ?hE7 ?hend7
  case hfin7 =>
    intro G
    simp only [flowAll, flowVal, Act.put, List.setIfInBounds_toArray, List.set_cons_zero, List.set_cons_succ]
    exact rfl
  case hE7 =>
    intro G
    refine ⟨Or.inr (fun W hB hR => known_val rfl (by go_simp)),
      Or.inr (fun W hB hR => known_val rfl (by have h9 : IntKind.u8.wrap 129 = 129 := (by decide +kernel); go_simp)),
      ⟨rfl, fun W => made_slice (by unfold execOp; go_simp; rfl)⟩,
      Or.inr (fun W hB hR => known_val rfl (by have hrow := conv_bytes (hR 2 _ _ _ rfl (by kernel_rfl)) 1 1 rfl; go_simp)),
      Or.inr (fun W hB hR => known_val rfl (by exact exec_cat (.const (.string ⟨wordL.toArray⟩)) (.tmp 15) _ _ _ C1.out.1 C1.out.2 rfl rfl rfl)),
      Or.inr (fun W hB hR => known_val rfl (by go_simp)),
      Or.inr (fun W hB hR => known_val rfl (by go_simp)),
      Or.inr (fun W hB hR => known_val rfl (by have := conv_range (((M.drew.step hB).row 0 rfl).b_r) 8 8 HL.out.1; go_simp)),
      Or.inr (fun W hB hR => known_val rfl (by exact exec_cat (.tmp 16) (.tmp 19) _ _ _ C2.out.1 C2.out.2 rfl rfl rfl)),
      Or.inr (fun W hB hR => known_val rfl (by go_simp)),
      Or.inr (fun W hB hR => known_val rfl (by have := ((M.drew.step hB).row 0 rfl).b_cost hx; go_simp)),
      Or.inr (fun W hB hR => known_call 27 #[.int .i64 x.cost, .int .i64 4] (Q1.out W) rfl (by go_simp)),
      Or.inr (fun W hB hR => known_val rfl (by exact exec_cat (.tmp 20) (.tmp 23) _ _ _ C3.out.1 C3.out.2 rfl rfl rfl)),
      Or.inr (fun W hB hR => known_val rfl (by go_simp)),
      Or.inr (fun W hB hR => known_val rfl (by go_simp)),
      Or.inr (fun W hB hR => known_val rfl (by have := conv_range (((M.drew.step hB).row 0 rfl).b_b hx) 8 8 HL.out.2; go_simp)),
      Or.inr (fun W hB hR => known_val rfl (by exact exec_cat (.tmp 24) (.tmp 27) _ _ _ C4.out.1 C4.out.2 rfl rfl rfl)),
      Or.inr (fun W hB hR => known_val rfl (by go_simp)),
      Or.inr (fun W hB hR => known_val rfl (by have := ((M.drew.step hB).row 0 rfl).b_port hx; go_simp)),
      Or.inr (fun W hB hR => known_call 27 #[.int .i64 x.port, .int .i64 2] (Q2.out W) rfl (by go_simp)),
      Or.inr (fun W hB hR => known_val rfl (by exact exec_cat (.tmp 28) (.tmp 31) _ _ _ C5.out.1 C5.out.2 rfl rfl rfl)),
      Or.inr (fun W hB hR => known_val rfl (by go_simp)),
      Or.inr (fun W hB hR => known_val rfl (by have := ((M.drew.step hB).row 0 rfl).b_age hx; go_simp)),
      Or.inr (fun W hB hR => known_call 27 #[.int .i64 x.age, .int .i64 2] (Q3.out W) rfl (by go_simp)),
      Or.inr (fun W hB hR => known_val rfl (by exact exec_cat (.tmp 32) (.tmp 35) _ _ _ C6.out.1 C6.out.2 rfl rfl rfl)),
      Or.inr (fun W hB hR => known_val rfl (by go_simp)),
      Or.inr (fun W hB hR => known_val rfl (by have := ((M.drew.step hB).row 0 rfl).b_top hx; go_simp)),
      Or.inr (fun W hB hR => known_call 27 #[.int .i64 x.top, .int .i64 2] (Q4.out W) rfl (by go_simp)),
      Or.inr (fun W hB hR => known_val rfl (by exact exec_cat (.tmp 36) (.tmp 39) _ _ _ C7.out.1 C7.out.2 rfl rfl rfl)),
      Or.inr (fun W hB hR => known_val rfl (by go_simp)),
      Or.inr (fun W hB hR => known_val rfl (by have := ((M.drew.step hB).row 0 rfl).b_hello hx; go_simp)),
      Or.inr (fun W hB hR => known_call 27 #[.int .i64 x.hello, .int .i64 2] (Q5.out W) rfl (by go_simp)),
      Or.inr (fun W hB hR => known_val rfl (by exact exec_cat (.tmp 40) (.tmp 43) _ _ _ C8.out.1 C8.out.2 rfl rfl rfl)),
      Or.inr (fun W hB hR => known_val rfl (by go_simp)),
      Or.inr (fun W hB hR => known_val rfl (by have := ((M.drew.step hB).row 0 rfl).b_delay hx; go_simp)),
      Or.inr (fun W hB hR => known_call 27 #[.int .i64 x.delay, .int .i64 2] (Q6.out W) rfl (by go_simp)),
      Or.inr (fun W hB hR => known_val rfl (by exact exec_cat (.tmp 44) (.tmp 47) _ _ _ C9.out.1 C9.out.2 rfl rfl rfl)),
      Or.inr (fun W hB hR => known_val rfl (by go_simp)), trivial⟩
  intro G W hB hM
  replace M := M.drew.step hB
  clear hB hM
  refine wpAny_end (by kernel_rfl) ?_ _
  refine NoPanic.normal ?_
  go_wp2
  go_ret
  exact ⟨rfl, M.below⟩
theorem refPrint11_any (x : B11) (hx : x.Fit) (hr : x.right = true) (w : World) : Calls Try.prog 19 #[.agg x.c] w fun e w' => e = .returned (.string ⟨x.bytes.toArray⟩) ∧ Below w.heap.size w w' := by
  have R := right11_spec.1 hr
  cases hc : x.ch <;> cases ha : x.ack
  · exact refPrint11_ff x hx R hc ha w
  · exact refPrint11_ft x hx R hc ha w
  · exact refPrint11_tf x hx R hc ha w
  · exact refPrint11_tt x hx R hc ha w
end Go.Proofs.Ytingcoojhfadgaa

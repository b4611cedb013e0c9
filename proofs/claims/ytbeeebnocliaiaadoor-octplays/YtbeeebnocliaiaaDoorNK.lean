/- The law OctPlays: walked, further cases. -/
import Derived.Test.YtbeeebnocliaiaaDoorNJ
namespace Go.Proofs.YtbeeebnocliaiaaDoor
open Go.RowKit
set_option maxRecDepth 20000 in
set_option maxHeartbeats 8000000 in
theorem playsBS (n : Int) (s : ByteArray) (hs : s.size ≤ 1000) (m0 m1 m2 m3 m4 m5 a0 a1 a2 a3 b0 b1 b2 b3 b4 b5 c0 c1 c2 c3 : UInt8) (MT IT : List UInt8) (Z eM eI : Int) (X : Int) (T4 : List UInt8) (hn : 0 ≤ n) (hn2 : ¬ n < 65536) (hn4 : n < 4294967296) (hz : s.size ≤ 7) (w : World) (hT : HasT w) (hE : HasE w)
    (hTWO : Hid (∀ W, Calls Tryd.prog 10 #[.int .i64 n] W fun e w' => e = .returned (.string ⟨#[]⟩) ∧ Below W.heap.size W w'))
    (hFOUR : Hid (∀ W, Calls Tryd.prog 9 #[.int .i64 n] W fun e w' => e = .returned (S9 T4) ∧ Below W.heap.size W w'))
    (hBF : Hid (∀ W, Calls Tryd.prog 15 #[.int .i64 n, .int .i64 4] W fun e w' => e = .returned (S9 T4) ∧ Below W.heap.size W w'))
    (hNUM : Hid (∀ W, Calls Tryd.prog 8 #[.string s] W fun e w' => e = .returned (.tuple #[.int .i64 X, .int .i64 0]) ∧ w' = W))
    (hRNUM : Hid (∀ W, Calls Tryd.prog 16 #[.string s] W fun e w' => e = .returned (.int .i64 X) ∧ w' = W))
    (hRM : Hid (∀ W, Calls Tryd.prog 17 #[.string s] W fun e w' => e = .returned (.tuple #[.agg #[B8 b0, B8 b1, B8 b2, B8 b3, B8 b4, B8 b5], .bool (eM == 0)]) ∧ Below W.heap.size W w'))
    (hRI : Hid (∀ W, Calls Tryd.prog 18 #[.string s] W fun e w' => e = .returned (.tuple #[.agg #[B8 c0, B8 c1, B8 c2, B8 c3], .bool (eI == 0)]) ∧ Below W.heap.size W w'))
    (hOM : Hid (∀ W, HasE W → Calls Tryd.prog 11 #[.string s] W fun e w' => e = .returned (.tuple #[.agg #[B8 b0, B8 b1, B8 b2, B8 b3, B8 b4, B8 b5], .int .i64 eM]) ∧ Below W.heap.size W w'))
    (hOI : Hid (∀ W, HasE W → HasT W → Calls Tryd.prog 13 #[.string s] W fun e w' => e = .returned (.tuple #[.agg #[B8 c0, B8 c1, B8 c2, B8 c3], .int .i64 eI]) ∧ Below W.heap.size W w'))
    (hS1 : Hid (∀ W, Calls Tryd.prog 21 #[.string s] W fun e w' => e = .returned (.int .i64 Z) ∧ Below W.heap.size W w'))
    (hS2 : Hid (∀ W, Calls Tryd.prog 22 #[.string s] W fun e w' => e = .returned (.int .i64 Z) ∧ Below W.heap.size W w'))
    (hM1 : Hid (∀ W, Calls Tryd.prog 12 #[.agg (bs [m0, m1, m2, m3, m4, m5])] W fun e w' => e = .returned (S9 MT) ∧ Below W.heap.size W w'))
    (hM2 : Hid (∀ W, Calls Tryd.prog 19 #[.agg (bs [m0, m1, m2, m3, m4, m5])] W fun e w' => e = .returned (S9 MT) ∧ Below W.heap.size W w'))
    (hI1 : Hid (∀ W, HasT W → Calls Tryd.prog 14 #[.agg (bs [a0, a1, a2, a3])] W fun e w' => e = .returned (S9 IT) ∧ Below W.heap.size W w'))
    (hI2 : Hid (∀ W, Calls Tryd.prog 20 #[.agg (bs [a0, a1, a2, a3])] W fun e w' => e = .returned (S9 IT) ∧ Below W.heap.size W w'))
    (hGR : Hid (∀ W, Calls Tryd.prog 23 #[.agg (bs [m0, m1, m2, m3, m4, m5])] W fun e w' => e = .returned (.bool ((m0.toNat : Int) % 2 == 1)) ∧ Below W.heap.size W w')) :
    Calls Tryd.prog 5 #[.int .i64 n, .string s, .agg (bs [m0, m1, m2, m3, m4, m5]), .agg (bs [a0, a1, a2, a3])] w fun e w' => e = .returned (.bool true) ∧ Below w.heap.size w w' := by
  have d0 : decide ((0 : Int) ≤ n) = true := by simp; omega
  have d2 : decide (n < 65536) = false := by simp; omega
  have d4 : decide (n < 4294967296) = true := by simp; omega
  have t0 : decide ((1000 : Int) < (s.size : Int)) = false := by simp; omega
  have t7 : decide ((7 : Int) < (s.size : Int)) = false := by simp; omega
  have t8 : decide ((s.size : Int) ≤ 7) = true := by simp; omega
  have hmm : (m0.toNat : Int).tmod 2 = (m0.toNat : Int) % 2 := Int.tmod_eq_emod_of_nonneg (by omega)
  have rm := (Has.fresh w 24 (bs [m0, m1, m2, m3, m4, m5])).alloc (.cells (bs [a0, a1, a2, a3]) 25)
  have ra := Has.fresh (w.alloc (.cells (bs [m0, m1, m2, m3, m4, m5]) 24)) 25 (bs [a0, a1, a2, a3])
  rw [World.size_alloc] at ra
  have B : Below w.heap.size w ((w.alloc (.cells (bs [m0, m1, m2, m3, m4, m5]) 24)).alloc (.cells (bs [a0, a1, a2, a3]) 25)) := ((Below.refl _ _).alloc (Nat.le_refl _) _).alloc (by simp) _
  clear hz hn hn2 hn4
  go_enter Tryd.func5, Tryd.ntmps5
  go_upto_region 1 with fail
  change Code.wp _ _ _ _ ((w.alloc (.cells (bs [m0, m1, m2, m3, m4, m5]) 24)).alloc (.cells (bs [a0, a1, a2, a3]) 25))
  generalize (w.alloc (.cells (bs [m0, m1, m2, m3, m4, m5]) 24)).alloc (.cells (bs [a0, a1, a2, a3]) 25) = w0 at rm ra B ⊢
  go_wp2_with fail
  refine (awake_any _).mono ?_
  rintro e v1 ⟨rfl, hb⟩
  replace rm := rm.below hb rm.lt
  replace ra := ra.below hb ra.lt
  replace B := B.trans (hb.mono B.size)
  clear hb
  clear w0
  go_wp2_with fail
  refine (hBF.out _).mono ?_
  rintro e v2 ⟨rfl, hb⟩
  replace rm := rm.below hb rm.lt
  replace ra := ra.below hb ra.lt
  replace B := B.trans (hb.mono B.size)
  clear hb
  go_wp2_with fail
  refine (hNUM.out _).mono ?_
  rintro e v3 ⟨rfl, rfl⟩
  go_wp2_with fail
  refine (hRNUM.out _).mono ?_
  rintro e v4 ⟨rfl, rfl⟩
  go_wp2_with fail
  refine (hRM.out _).mono ?_
  rintro e v5 ⟨rfl, hb⟩
  replace rm := rm.below hb rm.lt
  replace ra := ra.below hb ra.lt
  replace B := B.trans (hb.mono B.size)
  clear hb
  go_wp2_with fail
  change Calls Tryd.prog _ _ (v5.alloc (.cells #[B8 b0, B8 b1, B8 b2, B8 b3, B8 b4, B8 b5] 23)) _
  replace rm := rm.alloc (.cells #[B8 b0, B8 b1, B8 b2, B8 b3, B8 b4, B8 b5] 23)
  replace ra := ra.alloc (.cells #[B8 b0, B8 b1, B8 b2, B8 b3, B8 b4, B8 b5] 23)
  have rb := Has.fresh v5 23 #[B8 b0, B8 b1, B8 b2, B8 b3, B8 b4, B8 b5]
  replace B := B.alloc B.size (.cells #[B8 b0, B8 b1, B8 b2, B8 b3, B8 b4, B8 b5] 23)
  generalize v5.alloc (.cells #[B8 b0, B8 b1, B8 b2, B8 b3, B8 b4, B8 b5] 23) = v6 at rm ra rb B ⊢
  generalize v5.heap.size = gb at rb ⊢
  refine (hRI.out _).mono ?_
  rintro e v7 ⟨rfl, hb⟩
  replace rm := rm.below hb rm.lt
  replace ra := ra.below hb ra.lt
  replace rb := rb.below hb rb.lt
  replace B := B.trans (hb.mono B.size)
  clear hb
  go_wp2_with fail
  change Calls Tryd.prog _ _ (v7.alloc (.cells #[B8 c0, B8 c1, B8 c2, B8 c3] 25)) _
  replace rm := rm.alloc (.cells #[B8 c0, B8 c1, B8 c2, B8 c3] 25)
  replace ra := ra.alloc (.cells #[B8 c0, B8 c1, B8 c2, B8 c3] 25)
  replace rb := rb.alloc (.cells #[B8 c0, B8 c1, B8 c2, B8 c3] 25)
  have rc := Has.fresh v7 25 #[B8 c0, B8 c1, B8 c2, B8 c3]
  replace B := B.alloc B.size (.cells #[B8 c0, B8 c1, B8 c2, B8 c3] 25)
  generalize v7.alloc (.cells #[B8 c0, B8 c1, B8 c2, B8 c3] 25) = v8 at rm ra rb rc B ⊢
  generalize v7.heap.size = gc at rc ⊢
  refine (hOM.out _ (hE.below B)).mono ?_
  rintro e v9 ⟨rfl, hb⟩
  replace rm := rm.below hb rm.lt
  replace ra := ra.below hb ra.lt
  replace rb := rb.below hb rb.lt
  replace rc := rc.below hb rc.lt
  replace B := B.trans (hb.mono B.size)
  clear hb
  go_wp2_with fail
  change Calls Tryd.prog _ _ (v9.alloc (.cells #[B8 b0, B8 b1, B8 b2, B8 b3, B8 b4, B8 b5] 24)) _
  replace rm := rm.alloc (.cells #[B8 b0, B8 b1, B8 b2, B8 b3, B8 b4, B8 b5] 24)
  replace ra := ra.alloc (.cells #[B8 b0, B8 b1, B8 b2, B8 b3, B8 b4, B8 b5] 24)
  replace rb := rb.alloc (.cells #[B8 b0, B8 b1, B8 b2, B8 b3, B8 b4, B8 b5] 24)
  replace rc := rc.alloc (.cells #[B8 b0, B8 b1, B8 b2, B8 b3, B8 b4, B8 b5] 24)
  have rd := Has.fresh v9 24 #[B8 b0, B8 b1, B8 b2, B8 b3, B8 b4, B8 b5]
  replace B := B.alloc B.size (.cells #[B8 b0, B8 b1, B8 b2, B8 b3, B8 b4, B8 b5] 24)
  generalize v9.alloc (.cells #[B8 b0, B8 b1, B8 b2, B8 b3, B8 b4, B8 b5] 24) = v10 at rm ra rb rc rd B ⊢
  generalize v9.heap.size = gd at rd ⊢
  refine (hOI.out _ (hE.below B) (hT.below B)).mono ?_
  rintro e v11 ⟨rfl, hb⟩
  replace rm := rm.below hb rm.lt
  replace ra := ra.below hb ra.lt
  replace rb := rb.below hb rb.lt
  replace rc := rc.below hb rc.lt
  replace rd := rd.below hb rd.lt
  replace B := B.trans (hb.mono B.size)
  clear hb
  go_upto_region 15 with fail
  change Code.wp _ _ _ _ (v11.alloc (.cells #[B8 c0, B8 c1, B8 c2, B8 c3] 25))
  replace rm := rm.alloc (.cells #[B8 c0, B8 c1, B8 c2, B8 c3] 25)
  replace ra := ra.alloc (.cells #[B8 c0, B8 c1, B8 c2, B8 c3] 25)
  replace rb := rb.alloc (.cells #[B8 c0, B8 c1, B8 c2, B8 c3] 25)
  replace rc := rc.alloc (.cells #[B8 c0, B8 c1, B8 c2, B8 c3] 25)
  replace rd := rd.alloc (.cells #[B8 c0, B8 c1, B8 c2, B8 c3] 25)
  have ri := Has.fresh v11 25 #[B8 c0, B8 c1, B8 c2, B8 c3]
  replace B := B.alloc B.size (.cells #[B8 c0, B8 c1, B8 c2, B8 c3] 25)
  generalize v11.alloc (.cells #[B8 c0, B8 c1, B8 c2, B8 c3] 25) = v12 at rm ra rb rc rd ri B ⊢
  generalize v11.heap.size = gi at ri ⊢
  refine wp_region_noPanic ?_
  refine wp_region_flow (fin := ?fin1) 63 0 (by kernel_rfl) [.inl (.int .i64 n),
    .inl (.string ⟨#[]⟩),
    .inl (.string ⟨#[]⟩),
    .inl (.bool true),
    .inl (.bool true),
    .inl (.int .i64 n),
    .inl (S9 T4),
    .inl (S9 T4),
    .inl (.bool true),
    .inl (.bool true),
    .inl (.bool true),
    .inl (.agg (bs [b0, b1, b2, b3, b4, b5])),
    .inl (.agg (bs [b0, b1, b2, b3, b4, b5])),
    .inl (.bool true),
    .inl (.bool true),
    .inl (.bool true),
    .inl (.int .i64 eM),
    .inl (.bool (eM == 0)),
    .inl (.bool (eM == 0)),
    .inl (.bool true),
    .inl (.bool true),
    .inl (.bool true),
    .inl (.agg (bs [c0, c1, c2, c3])),
    .inl (.agg (bs [c0, c1, c2, c3])),
    .inl (.bool true),
    .inl (.bool true),
    .inl (.bool true),
    .inl (.int .i64 eI),
    .inl (.bool (eI == 0)),
    .inl (.bool (eI == 0)),
    .inl (.bool true),
    .inl (.bool true),
    .inl (.bool true),
    .inl (.agg (bs [m0, m1, m2, m3, m4, m5])),
    .inl (S9 MT),
    .inl (.agg (bs [m0, m1, m2, m3, m4, m5])),
    .inl (S9 MT),
    .inl (.bool true),
    .inl (.bool true),
    .inl (.bool true),
    .inl (.agg (bs [a0, a1, a2, a3])),
    .inl (S9 IT),
    .inl (.agg (bs [a0, a1, a2, a3])),
    .inl (S9 IT),
    .inl (.bool true),
    .inl (.bool true),
    .inl (.bool true),
    .inl (.string s),
    .inl (.int .i64 Z),
    .inl (.string s),
    .inl (.int .i64 Z),
    .inl (.bool true),
    .inl (.bool true),
    .inl (.bool true),
    .inl (.agg (bs [m0, m1, m2, m3, m4, m5])),
    .inl (.bool ((m0.toNat : Int) % 2 == 1)),
    .inl (.pointer (some ⟨w.heap.size, 0, none⟩)),
    .inl (B8 m0),
    .inl (.int .u8 ((m0.toNat : Int) % 2)),
    .inl (.bool ((m0.toNat : Int) % 2 == 1)),
    .inl (.bool true),
    .inl (.bool true),
    .inl (.bool true)] rfl rfl (by kernel_rfl) ?hfin1 ?hE1 ?hend1
  case hfin1 =>
    intro G
    simp only [flowAll, flowVal, Act.put, List.setIfInBounds_toArray, List.set_cons_zero, List.set_cons_succ]
    exact rfl
  case hE1 =>
    intro G
    refine ⟨Or.inr (fun W hB => known_val rfl (by go_simp)),
      Or.inr (fun W hB => known_call 10 #[.int .i64 n] (hTWO.out W) rfl (by go_simp)),
      Or.inr (fun W hB => known_val rfl (by go_simp)),
      Or.inr (fun W hB => known_val rfl (by go_simp)),
      Or.inr (fun W hB => known_val rfl (by go_simp)),
      Or.inr (fun W hB => known_val rfl (by go_simp)),
      Or.inr (fun W hB => known_call 9 #[.int .i64 n] (hFOUR.out W) rfl (by go_simp)),
      Or.inr (fun W hB => known_val rfl (by go_simp)),
      Or.inr (fun W hB => known_val rfl (by go_simp)),
      Or.inr (fun W hB => known_val rfl (by go_simp)),
      Or.inr (fun W hB => known_val rfl (by go_simp)),
      Or.inr (fun W hB => known_val rfl (by exact load_mac (.tmp 17) _ [b0, b1, b2, b3, b4, b5] rfl (rd.below (drewB hB) rd.lt) rfl rfl)),
      Or.inr (fun W hB => known_val rfl (by exact load_six (.tmp 13) _ [b0, b1, b2, b3, b4, b5] rfl (rb.below (drewB hB) rb.lt) rfl rfl)),
      Or.inr (fun W hB => known_val rfl (by exact exec_same_mac (.tmp 107) (.tmp 108) [b0, b1, b2, b3, b4, b5] rfl rfl rfl rfl)),
      Or.inr (fun W hB => known_val rfl (by go_simp)),
      Or.inr (fun W hB => known_val rfl (by go_simp)),
      Or.inr (fun W hB => known_val rfl (by go_simp)),
      Or.inr (fun W hB => known_val rfl (by go_simp)),
      Or.inr (fun W hB => known_val rfl (by go_simp)),
      Or.inr (fun W hB => known_val rfl (by go_simp)),
      Or.inr (fun W hB => known_val rfl (by go_simp)),
      Or.inr (fun W hB => known_val rfl (by go_simp)),
      Or.inr (fun W hB => known_val rfl (by exact load_ip (.tmp 19) _ [c0, c1, c2, c3] rfl (ri.below (drewB hB) ri.lt) rfl rfl)),
      Or.inr (fun W hB => known_val rfl (by exact load_ip (.tmp 15) _ [c0, c1, c2, c3] rfl (rc.below (drewB hB) rc.lt) rfl rfl)),
      Or.inr (fun W hB => known_val rfl (by exact exec_same_ip (.tmp 118) (.tmp 119) [c0, c1, c2, c3] rfl rfl rfl rfl)),
      Or.inr (fun W hB => known_val rfl (by go_simp)),
      Or.inr (fun W hB => known_val rfl (by go_simp)),
      Or.inr (fun W hB => known_val rfl (by go_simp)),
      Or.inr (fun W hB => known_val rfl (by go_simp)),
      Or.inr (fun W hB => known_val rfl (by go_simp)),
      Or.inr (fun W hB => known_val rfl (by go_simp)),
      Or.inr (fun W hB => known_val rfl (by go_simp)),
      Or.inr (fun W hB => known_val rfl (by go_simp)),
      Or.inr (fun W hB => known_val rfl (by exact load_mac (.tmp 6) _ [m0, m1, m2, m3, m4, m5] rfl (rm.below (drewB hB) rm.lt) rfl rfl)),
      Or.inr (fun W hB => known_call 12 #[.agg (bs [m0, m1, m2, m3, m4, m5])] (hM1.out W) rfl (by go_simp)),
      Or.inr (fun W hB => known_val rfl (by exact load_mac (.tmp 6) _ [m0, m1, m2, m3, m4, m5] rfl (rm.below (drewB hB) rm.lt) rfl rfl)),
      Or.inr (fun W hB => known_call 19 #[.agg (bs [m0, m1, m2, m3, m4, m5])] (hM2.out W) rfl (by go_simp)),
      Or.inr (fun W hB => known_val rfl (by go_simp)),
      Or.inr (fun W hB => known_val rfl (by go_simp)),
      Or.inr (fun W hB => known_val rfl (by go_simp)),
      Or.inr (fun W hB => known_val rfl (by exact load_ip (.tmp 7) _ [a0, a1, a2, a3] rfl (ra.below (drewB hB) ra.lt) rfl rfl)),
      Or.inr (fun W hB => known_call 14 #[.agg (bs [a0, a1, a2, a3])] (hI1.out W (hT.below (B.trans ((drewB hB).mono B.size)))) rfl (by go_simp)),
      Or.inr (fun W hB => known_val rfl (by exact load_ip (.tmp 7) _ [a0, a1, a2, a3] rfl (ra.below (drewB hB) ra.lt) rfl rfl)),
      Or.inr (fun W hB => known_call 20 #[.agg (bs [a0, a1, a2, a3])] (hI2.out W) rfl (by go_simp)),
      Or.inr (fun W hB => known_val rfl (by go_simp)),
      Or.inr (fun W hB => known_val rfl (by go_simp)),
      Or.inr (fun W hB => known_val rfl (by go_simp)),
      Or.inr (fun W hB => known_val rfl (by go_simp)),
      Or.inr (fun W hB => known_call 21 #[.string s] (hS1.out W) rfl (by go_simp)),
      Or.inr (fun W hB => known_val rfl (by go_simp)),
      Or.inr (fun W hB => known_call 22 #[.string s] (hS2.out W) rfl (by go_simp)),
      Or.inr (fun W hB => known_val rfl (by go_simp)),
      Or.inr (fun W hB => known_val rfl (by go_simp)),
      Or.inr (fun W hB => known_val rfl (by go_simp)),
      Or.inr (fun W hB => known_val rfl (by exact load_mac (.tmp 6) _ [m0, m1, m2, m3, m4, m5] rfl (rm.below (drewB hB) rm.lt) rfl rfl)),
      Or.inr (fun W hB => known_call 23 #[.agg (bs [m0, m1, m2, m3, m4, m5])] (hGR.out W) rfl (by go_simp)),
      Or.inr (fun W hB => known_val rfl (by go_simp)),
      Or.inr (fun W hB => known_val rfl (by (have hcc := (rm.below (drewB hB) rm.lt).byte 0 (by show 0 < 6; omega); go_simp))),
      Or.inr (fun W hB => known_val rfl (by go_simp)),
      Or.inr (fun W hB => known_val rfl (by go_simp)),
      Or.inr (fun W hB => known_val rfl (by go_simp)),
      Or.inr (fun W hB => known_val rfl (by go_simp)),
      Or.inr (fun W hB => known_val rfl (by go_simp)), trivial⟩
  intro G W hB hM
  replace B := B.trans ((drewB hB).mono B.size)
  clear hM hB G
  refine wpAny_end (by kernel_rfl) ?_ _
  refine NoPanic.normal ?_
  go_wp2
  go_ret
  exact ⟨rfl, B⟩
set_option maxRecDepth 20000 in
set_option maxHeartbeats 8000000 in
theorem playsNL (n : Int) (s : ByteArray) (hs : s.size ≤ 1000) (m0 m1 m2 m3 m4 m5 a0 a1 a2 a3 b0 b1 b2 b3 b4 b5 c0 c1 c2 c3 : UInt8) (MT IT : List UInt8) (Z eM eI : Int) (hn : n < 0) (hz : 7 < s.size) (w : World) (hT : HasT w) (hE : HasE w)
    (hTWO : Hid (∀ W, Calls Tryd.prog 10 #[.int .i64 n] W fun e w' => e = .returned (.string ⟨#[]⟩) ∧ Below W.heap.size W w'))
    (hFOUR : Hid (∀ W, Calls Tryd.prog 9 #[.int .i64 n] W fun e w' => e = .returned (.string ⟨#[]⟩) ∧ Below W.heap.size W w'))
    (hNUM : Hid (∀ W, Calls Tryd.prog 8 #[.string s] W fun e w' => e = .returned (.tuple #[.int .i64 0, .int .i64 1]) ∧ w' = W))
    (hRM : Hid (∀ W, Calls Tryd.prog 17 #[.string s] W fun e w' => e = .returned (.tuple #[.agg #[B8 b0, B8 b1, B8 b2, B8 b3, B8 b4, B8 b5], .bool (eM == 0)]) ∧ Below W.heap.size W w'))
    (hRI : Hid (∀ W, Calls Tryd.prog 18 #[.string s] W fun e w' => e = .returned (.tuple #[.agg #[B8 c0, B8 c1, B8 c2, B8 c3], .bool (eI == 0)]) ∧ Below W.heap.size W w'))
    (hOM : Hid (∀ W, HasE W → Calls Tryd.prog 11 #[.string s] W fun e w' => e = .returned (.tuple #[.agg #[B8 b0, B8 b1, B8 b2, B8 b3, B8 b4, B8 b5], .int .i64 eM]) ∧ Below W.heap.size W w'))
    (hOI : Hid (∀ W, HasE W → HasT W → Calls Tryd.prog 13 #[.string s] W fun e w' => e = .returned (.tuple #[.agg #[B8 c0, B8 c1, B8 c2, B8 c3], .int .i64 eI]) ∧ Below W.heap.size W w'))
    (hS1 : Hid (∀ W, Calls Tryd.prog 21 #[.string s] W fun e w' => e = .returned (.int .i64 Z) ∧ Below W.heap.size W w'))
    (hS2 : Hid (∀ W, Calls Tryd.prog 22 #[.string s] W fun e w' => e = .returned (.int .i64 Z) ∧ Below W.heap.size W w'))
    (hM1 : Hid (∀ W, Calls Tryd.prog 12 #[.agg (bs [m0, m1, m2, m3, m4, m5])] W fun e w' => e = .returned (S9 MT) ∧ Below W.heap.size W w'))
    (hM2 : Hid (∀ W, Calls Tryd.prog 19 #[.agg (bs [m0, m1, m2, m3, m4, m5])] W fun e w' => e = .returned (S9 MT) ∧ Below W.heap.size W w'))
    (hI1 : Hid (∀ W, HasT W → Calls Tryd.prog 14 #[.agg (bs [a0, a1, a2, a3])] W fun e w' => e = .returned (S9 IT) ∧ Below W.heap.size W w'))
    (hI2 : Hid (∀ W, Calls Tryd.prog 20 #[.agg (bs [a0, a1, a2, a3])] W fun e w' => e = .returned (S9 IT) ∧ Below W.heap.size W w'))
    (hGR : Hid (∀ W, Calls Tryd.prog 23 #[.agg (bs [m0, m1, m2, m3, m4, m5])] W fun e w' => e = .returned (.bool ((m0.toNat : Int) % 2 == 1)) ∧ Below W.heap.size W w')) :
    Calls Tryd.prog 5 #[.int .i64 n, .string s, .agg (bs [m0, m1, m2, m3, m4, m5]), .agg (bs [a0, a1, a2, a3])] w fun e w' => e = .returned (.bool true) ∧ Below w.heap.size w w' := by
  have d0 : decide ((0 : Int) ≤ n) = false := by simp; omega
  have t0 : decide ((1000 : Int) < (s.size : Int)) = false := by simp; omega
  have t7 : decide ((7 : Int) < (s.size : Int)) = true := by simp; omega
  have t8 : decide ((s.size : Int) ≤ 7) = false := by simp; omega
  have hmm : (m0.toNat : Int).tmod 2 = (m0.toNat : Int) % 2 := Int.tmod_eq_emod_of_nonneg (by omega)
  have rm := (Has.fresh w 24 (bs [m0, m1, m2, m3, m4, m5])).alloc (.cells (bs [a0, a1, a2, a3]) 25)
  have ra := Has.fresh (w.alloc (.cells (bs [m0, m1, m2, m3, m4, m5]) 24)) 25 (bs [a0, a1, a2, a3])
  rw [World.size_alloc] at ra
  have B : Below w.heap.size w ((w.alloc (.cells (bs [m0, m1, m2, m3, m4, m5]) 24)).alloc (.cells (bs [a0, a1, a2, a3]) 25)) := ((Below.refl _ _).alloc (Nat.le_refl _) _).alloc (by simp) _
  clear hz hn
  go_enter Tryd.func5, Tryd.ntmps5
  go_upto_region 1 with fail
  change Code.wp _ _ _ _ ((w.alloc (.cells (bs [m0, m1, m2, m3, m4, m5]) 24)).alloc (.cells (bs [a0, a1, a2, a3]) 25))
  generalize (w.alloc (.cells (bs [m0, m1, m2, m3, m4, m5]) 24)).alloc (.cells (bs [a0, a1, a2, a3]) 25) = w0 at rm ra B ⊢
  go_wp2_with fail
  refine (awake_any _).mono ?_
  rintro e v1 ⟨rfl, hb⟩
  replace rm := rm.below hb rm.lt
  replace ra := ra.below hb ra.lt
  replace B := B.trans (hb.mono B.size)
  clear hb
  clear w0
  go_wp2_with fail
  refine (hNUM.out _).mono ?_
  rintro e v2 ⟨rfl, rfl⟩
  go_wp2_with fail
  refine (hRM.out _).mono ?_
  rintro e v3 ⟨rfl, hb⟩
  replace rm := rm.below hb rm.lt
  replace ra := ra.below hb ra.lt
  replace B := B.trans (hb.mono B.size)
  clear hb
  go_wp2_with fail
  change Calls Tryd.prog _ _ (v3.alloc (.cells #[B8 b0, B8 b1, B8 b2, B8 b3, B8 b4, B8 b5] 23)) _
  replace rm := rm.alloc (.cells #[B8 b0, B8 b1, B8 b2, B8 b3, B8 b4, B8 b5] 23)
  replace ra := ra.alloc (.cells #[B8 b0, B8 b1, B8 b2, B8 b3, B8 b4, B8 b5] 23)
  have rb := Has.fresh v3 23 #[B8 b0, B8 b1, B8 b2, B8 b3, B8 b4, B8 b5]
  replace B := B.alloc B.size (.cells #[B8 b0, B8 b1, B8 b2, B8 b3, B8 b4, B8 b5] 23)
  generalize v3.alloc (.cells #[B8 b0, B8 b1, B8 b2, B8 b3, B8 b4, B8 b5] 23) = v4 at rm ra rb B ⊢
  generalize v3.heap.size = gb at rb ⊢
  refine (hRI.out _).mono ?_
  rintro e v5 ⟨rfl, hb⟩
  replace rm := rm.below hb rm.lt
  replace ra := ra.below hb ra.lt
  replace rb := rb.below hb rb.lt
  replace B := B.trans (hb.mono B.size)
  clear hb
  go_wp2_with fail
  change Calls Tryd.prog _ _ (v5.alloc (.cells #[B8 c0, B8 c1, B8 c2, B8 c3] 25)) _
  replace rm := rm.alloc (.cells #[B8 c0, B8 c1, B8 c2, B8 c3] 25)
  replace ra := ra.alloc (.cells #[B8 c0, B8 c1, B8 c2, B8 c3] 25)
  replace rb := rb.alloc (.cells #[B8 c0, B8 c1, B8 c2, B8 c3] 25)
  have rc := Has.fresh v5 25 #[B8 c0, B8 c1, B8 c2, B8 c3]
  replace B := B.alloc B.size (.cells #[B8 c0, B8 c1, B8 c2, B8 c3] 25)
  generalize v5.alloc (.cells #[B8 c0, B8 c1, B8 c2, B8 c3] 25) = v6 at rm ra rb rc B ⊢
  generalize v5.heap.size = gc at rc ⊢
  refine (hOM.out _ (hE.below B)).mono ?_
  rintro e v7 ⟨rfl, hb⟩
  replace rm := rm.below hb rm.lt
  replace ra := ra.below hb ra.lt
  replace rb := rb.below hb rb.lt
  replace rc := rc.below hb rc.lt
  replace B := B.trans (hb.mono B.size)
  clear hb
  go_wp2_with fail
  change Calls Tryd.prog _ _ (v7.alloc (.cells #[B8 b0, B8 b1, B8 b2, B8 b3, B8 b4, B8 b5] 24)) _
  replace rm := rm.alloc (.cells #[B8 b0, B8 b1, B8 b2, B8 b3, B8 b4, B8 b5] 24)
  replace ra := ra.alloc (.cells #[B8 b0, B8 b1, B8 b2, B8 b3, B8 b4, B8 b5] 24)
  replace rb := rb.alloc (.cells #[B8 b0, B8 b1, B8 b2, B8 b3, B8 b4, B8 b5] 24)
  replace rc := rc.alloc (.cells #[B8 b0, B8 b1, B8 b2, B8 b3, B8 b4, B8 b5] 24)
  have rd := Has.fresh v7 24 #[B8 b0, B8 b1, B8 b2, B8 b3, B8 b4, B8 b5]
  replace B := B.alloc B.size (.cells #[B8 b0, B8 b1, B8 b2, B8 b3, B8 b4, B8 b5] 24)
  generalize v7.alloc (.cells #[B8 b0, B8 b1, B8 b2, B8 b3, B8 b4, B8 b5] 24) = v8 at rm ra rb rc rd B ⊢
  generalize v7.heap.size = gd at rd ⊢
  refine (hOI.out _ (hE.below B) (hT.below B)).mono ?_
  rintro e v9 ⟨rfl, hb⟩
  replace rm := rm.below hb rm.lt
  replace ra := ra.below hb ra.lt
  replace rb := rb.below hb rb.lt
  replace rc := rc.below hb rc.lt
  replace rd := rd.below hb rd.lt
  replace B := B.trans (hb.mono B.size)
  clear hb
  go_upto_region 15 with fail
  change Code.wp _ _ _ _ (v9.alloc (.cells #[B8 c0, B8 c1, B8 c2, B8 c3] 25))
  replace rm := rm.alloc (.cells #[B8 c0, B8 c1, B8 c2, B8 c3] 25)
  replace ra := ra.alloc (.cells #[B8 c0, B8 c1, B8 c2, B8 c3] 25)
  replace rb := rb.alloc (.cells #[B8 c0, B8 c1, B8 c2, B8 c3] 25)
  replace rc := rc.alloc (.cells #[B8 c0, B8 c1, B8 c2, B8 c3] 25)
  replace rd := rd.alloc (.cells #[B8 c0, B8 c1, B8 c2, B8 c3] 25)
  have ri := Has.fresh v9 25 #[B8 c0, B8 c1, B8 c2, B8 c3]
  replace B := B.alloc B.size (.cells #[B8 c0, B8 c1, B8 c2, B8 c3] 25)
  generalize v9.alloc (.cells #[B8 c0, B8 c1, B8 c2, B8 c3] 25) = v10 at rm ra rb rc rd ri B ⊢
  generalize v9.heap.size = gi at ri ⊢
  refine wp_region_noPanic ?_
  refine wp_region_flow (fin := ?fin2) 63 0 (by kernel_rfl) [.inl (.int .i64 n),
    .inl (.string ⟨#[]⟩),
    .inl (.string ⟨#[]⟩),
    .inl (.bool true),
    .inl (.bool true),
    .inl (.int .i64 n),
    .inl (.string ⟨#[]⟩),
    .inl (.string ⟨#[]⟩),
    .inl (.bool true),
    .inl (.bool true),
    .inl (.bool true),
    .inl (.agg (bs [b0, b1, b2, b3, b4, b5])),
    .inl (.agg (bs [b0, b1, b2, b3, b4, b5])),
    .inl (.bool true),
    .inl (.bool true),
    .inl (.bool true),
    .inl (.int .i64 eM),
    .inl (.bool (eM == 0)),
    .inl (.bool (eM == 0)),
    .inl (.bool true),
    .inl (.bool true),
    .inl (.bool true),
    .inl (.agg (bs [c0, c1, c2, c3])),
    .inl (.agg (bs [c0, c1, c2, c3])),
    .inl (.bool true),
    .inl (.bool true),
    .inl (.bool true),
    .inl (.int .i64 eI),
    .inl (.bool (eI == 0)),
    .inl (.bool (eI == 0)),
    .inl (.bool true),
    .inl (.bool true),
    .inl (.bool true),
    .inl (.agg (bs [m0, m1, m2, m3, m4, m5])),
    .inl (S9 MT),
    .inl (.agg (bs [m0, m1, m2, m3, m4, m5])),
    .inl (S9 MT),
    .inl (.bool true),
    .inl (.bool true),
    .inl (.bool true),
    .inl (.agg (bs [a0, a1, a2, a3])),
    .inl (S9 IT),
    .inl (.agg (bs [a0, a1, a2, a3])),
    .inl (S9 IT),
    .inl (.bool true),
    .inl (.bool true),
    .inl (.bool true),
    .inl (.string s),
    .inl (.int .i64 Z),
    .inl (.string s),
    .inl (.int .i64 Z),
    .inl (.bool true),
    .inl (.bool true),
    .inl (.bool true),
    .inl (.agg (bs [m0, m1, m2, m3, m4, m5])),
    .inl (.bool ((m0.toNat : Int) % 2 == 1)),
    .inl (.pointer (some ⟨w.heap.size, 0, none⟩)),
    .inl (B8 m0),
    .inl (.int .u8 ((m0.toNat : Int) % 2)),
    .inl (.bool ((m0.toNat : Int) % 2 == 1)),
    .inl (.bool true),
    .inl (.bool true),
    .inl (.bool true)] rfl rfl (by kernel_rfl) ?hfin2 ?hE2 ?hend2
  case hfin2 =>
    intro G
    simp only [flowAll, flowVal, Act.put, List.setIfInBounds_toArray, List.set_cons_zero, List.set_cons_succ]
    exact rfl
  case hE2 =>
    intro G
    refine ⟨Or.inr (fun W hB => known_val rfl (by go_simp)),
      Or.inr (fun W hB => known_call 10 #[.int .i64 n] (hTWO.out W) rfl (by go_simp)),
      Or.inr (fun W hB => known_val rfl (by go_simp)),
      Or.inr (fun W hB => known_val rfl (by go_simp)),
      Or.inr (fun W hB => known_val rfl (by go_simp)),
      Or.inr (fun W hB => known_val rfl (by go_simp)),
      Or.inr (fun W hB => known_call 9 #[.int .i64 n] (hFOUR.out W) rfl (by go_simp)),
      Or.inr (fun W hB => known_val rfl (by go_simp)),
      Or.inr (fun W hB => known_val rfl (by go_simp)),
      Or.inr (fun W hB => known_val rfl (by go_simp)),
      Or.inr (fun W hB => known_val rfl (by go_simp)),
      Or.inr (fun W hB => known_val rfl (by exact load_mac (.tmp 17) _ [b0, b1, b2, b3, b4, b5] rfl (rd.below (drewB hB) rd.lt) rfl rfl)),
      Or.inr (fun W hB => known_val rfl (by exact load_six (.tmp 13) _ [b0, b1, b2, b3, b4, b5] rfl (rb.below (drewB hB) rb.lt) rfl rfl)),
      Or.inr (fun W hB => known_val rfl (by exact exec_same_mac (.tmp 107) (.tmp 108) [b0, b1, b2, b3, b4, b5] rfl rfl rfl rfl)),
      Or.inr (fun W hB => known_val rfl (by go_simp)),
      Or.inr (fun W hB => known_val rfl (by go_simp)),
      Or.inr (fun W hB => known_val rfl (by go_simp)),
      Or.inr (fun W hB => known_val rfl (by go_simp)),
      Or.inr (fun W hB => known_val rfl (by go_simp)),
      Or.inr (fun W hB => known_val rfl (by go_simp)),
      Or.inr (fun W hB => known_val rfl (by go_simp)),
      Or.inr (fun W hB => known_val rfl (by go_simp)),
      Or.inr (fun W hB => known_val rfl (by exact load_ip (.tmp 19) _ [c0, c1, c2, c3] rfl (ri.below (drewB hB) ri.lt) rfl rfl)),
      Or.inr (fun W hB => known_val rfl (by exact load_ip (.tmp 15) _ [c0, c1, c2, c3] rfl (rc.below (drewB hB) rc.lt) rfl rfl)),
      Or.inr (fun W hB => known_val rfl (by exact exec_same_ip (.tmp 118) (.tmp 119) [c0, c1, c2, c3] rfl rfl rfl rfl)),
      Or.inr (fun W hB => known_val rfl (by go_simp)),
      Or.inr (fun W hB => known_val rfl (by go_simp)),
      Or.inr (fun W hB => known_val rfl (by go_simp)),
      Or.inr (fun W hB => known_val rfl (by go_simp)),
      Or.inr (fun W hB => known_val rfl (by go_simp)),
      Or.inr (fun W hB => known_val rfl (by go_simp)),
      Or.inr (fun W hB => known_val rfl (by go_simp)),
      Or.inr (fun W hB => known_val rfl (by go_simp)),
      Or.inr (fun W hB => known_val rfl (by exact load_mac (.tmp 6) _ [m0, m1, m2, m3, m4, m5] rfl (rm.below (drewB hB) rm.lt) rfl rfl)),
      Or.inr (fun W hB => known_call 12 #[.agg (bs [m0, m1, m2, m3, m4, m5])] (hM1.out W) rfl (by go_simp)),
      Or.inr (fun W hB => known_val rfl (by exact load_mac (.tmp 6) _ [m0, m1, m2, m3, m4, m5] rfl (rm.below (drewB hB) rm.lt) rfl rfl)),
      Or.inr (fun W hB => known_call 19 #[.agg (bs [m0, m1, m2, m3, m4, m5])] (hM2.out W) rfl (by go_simp)),
      Or.inr (fun W hB => known_val rfl (by go_simp)),
      Or.inr (fun W hB => known_val rfl (by go_simp)),
      Or.inr (fun W hB => known_val rfl (by go_simp)),
      Or.inr (fun W hB => known_val rfl (by exact load_ip (.tmp 7) _ [a0, a1, a2, a3] rfl (ra.below (drewB hB) ra.lt) rfl rfl)),
      Or.inr (fun W hB => known_call 14 #[.agg (bs [a0, a1, a2, a3])] (hI1.out W (hT.below (B.trans ((drewB hB).mono B.size)))) rfl (by go_simp)),
      Or.inr (fun W hB => known_val rfl (by exact load_ip (.tmp 7) _ [a0, a1, a2, a3] rfl (ra.below (drewB hB) ra.lt) rfl rfl)),
      Or.inr (fun W hB => known_call 20 #[.agg (bs [a0, a1, a2, a3])] (hI2.out W) rfl (by go_simp)),
      Or.inr (fun W hB => known_val rfl (by go_simp)),
      Or.inr (fun W hB => known_val rfl (by go_simp)),
      Or.inr (fun W hB => known_val rfl (by go_simp)),
      Or.inr (fun W hB => known_val rfl (by go_simp)),
      Or.inr (fun W hB => known_call 21 #[.string s] (hS1.out W) rfl (by go_simp)),
      Or.inr (fun W hB => known_val rfl (by go_simp)),
      Or.inr (fun W hB => known_call 22 #[.string s] (hS2.out W) rfl (by go_simp)),
      Or.inr (fun W hB => known_val rfl (by go_simp)),
      Or.inr (fun W hB => known_val rfl (by go_simp)),
      Or.inr (fun W hB => known_val rfl (by go_simp)),
      Or.inr (fun W hB => known_val rfl (by exact load_mac (.tmp 6) _ [m0, m1, m2, m3, m4, m5] rfl (rm.below (drewB hB) rm.lt) rfl rfl)),
      Or.inr (fun W hB => known_call 23 #[.agg (bs [m0, m1, m2, m3, m4, m5])] (hGR.out W) rfl (by go_simp)),
      Or.inr (fun W hB => known_val rfl (by go_simp)),
      Or.inr (fun W hB => known_val rfl (by (have hcc := (rm.below (drewB hB) rm.lt).byte 0 (by show 0 < 6; omega); go_simp))),
      Or.inr (fun W hB => known_val rfl (by go_simp)),
      Or.inr (fun W hB => known_val rfl (by go_simp)),
      Or.inr (fun W hB => known_val rfl (by go_simp)),
      Or.inr (fun W hB => known_val rfl (by go_simp)),
      Or.inr (fun W hB => known_val rfl (by go_simp)), trivial⟩
  intro G W hB hM
  replace B := B.trans ((drewB hB).mono B.size)
  clear hM hB G
  refine wpAny_end (by kernel_rfl) ?_ _
  refine NoPanic.normal ?_
  go_wp2
  go_ret
  exact ⟨rfl, B⟩
set_option maxRecDepth 20000 in
set_option maxHeartbeats 8000000 in
theorem playsAL (n : Int) (s : ByteArray) (hs : s.size ≤ 1000) (m0 m1 m2 m3 m4 m5 a0 a1 a2 a3 b0 b1 b2 b3 b4 b5 c0 c1 c2 c3 : UInt8) (MT IT : List UInt8) (Z eM eI : Int) (T2 T4 : List UInt8) (hn : 0 ≤ n) (hn2 : n < 65536) (hz : 7 < s.size) (w : World) (hT : HasT w) (hE : HasE w)
    (hTWO : Hid (∀ W, Calls Tryd.prog 10 #[.int .i64 n] W fun e w' => e = .returned (S9 T2) ∧ Below W.heap.size W w'))
    (hFOUR : Hid (∀ W, Calls Tryd.prog 9 #[.int .i64 n] W fun e w' => e = .returned (S9 T4) ∧ Below W.heap.size W w'))
    (hBT : Hid (∀ W, Calls Tryd.prog 15 #[.int .i64 n, .int .i64 2] W fun e w' => e = .returned (S9 T2) ∧ Below W.heap.size W w'))
    (hBF : Hid (∀ W, Calls Tryd.prog 15 #[.int .i64 n, .int .i64 4] W fun e w' => e = .returned (S9 T4) ∧ Below W.heap.size W w'))
    (hNUM : Hid (∀ W, Calls Tryd.prog 8 #[.string s] W fun e w' => e = .returned (.tuple #[.int .i64 0, .int .i64 1]) ∧ w' = W))
    (hRM : Hid (∀ W, Calls Tryd.prog 17 #[.string s] W fun e w' => e = .returned (.tuple #[.agg #[B8 b0, B8 b1, B8 b2, B8 b3, B8 b4, B8 b5], .bool (eM == 0)]) ∧ Below W.heap.size W w'))
    (hRI : Hid (∀ W, Calls Tryd.prog 18 #[.string s] W fun e w' => e = .returned (.tuple #[.agg #[B8 c0, B8 c1, B8 c2, B8 c3], .bool (eI == 0)]) ∧ Below W.heap.size W w'))
    (hOM : Hid (∀ W, HasE W → Calls Tryd.prog 11 #[.string s] W fun e w' => e = .returned (.tuple #[.agg #[B8 b0, B8 b1, B8 b2, B8 b3, B8 b4, B8 b5], .int .i64 eM]) ∧ Below W.heap.size W w'))
    (hOI : Hid (∀ W, HasE W → HasT W → Calls Tryd.prog 13 #[.string s] W fun e w' => e = .returned (.tuple #[.agg #[B8 c0, B8 c1, B8 c2, B8 c3], .int .i64 eI]) ∧ Below W.heap.size W w'))
    (hS1 : Hid (∀ W, Calls Tryd.prog 21 #[.string s] W fun e w' => e = .returned (.int .i64 Z) ∧ Below W.heap.size W w'))
    (hS2 : Hid (∀ W, Calls Tryd.prog 22 #[.string s] W fun e w' => e = .returned (.int .i64 Z) ∧ Below W.heap.size W w'))
    (hM1 : Hid (∀ W, Calls Tryd.prog 12 #[.agg (bs [m0, m1, m2, m3, m4, m5])] W fun e w' => e = .returned (S9 MT) ∧ Below W.heap.size W w'))
    (hM2 : Hid (∀ W, Calls Tryd.prog 19 #[.agg (bs [m0, m1, m2, m3, m4, m5])] W fun e w' => e = .returned (S9 MT) ∧ Below W.heap.size W w'))
    (hI1 : Hid (∀ W, HasT W → Calls Tryd.prog 14 #[.agg (bs [a0, a1, a2, a3])] W fun e w' => e = .returned (S9 IT) ∧ Below W.heap.size W w'))
    (hI2 : Hid (∀ W, Calls Tryd.prog 20 #[.agg (bs [a0, a1, a2, a3])] W fun e w' => e = .returned (S9 IT) ∧ Below W.heap.size W w'))
    (hGR : Hid (∀ W, Calls Tryd.prog 23 #[.agg (bs [m0, m1, m2, m3, m4, m5])] W fun e w' => e = .returned (.bool ((m0.toNat : Int) % 2 == 1)) ∧ Below W.heap.size W w')) :
    Calls Tryd.prog 5 #[.int .i64 n, .string s, .agg (bs [m0, m1, m2, m3, m4, m5]), .agg (bs [a0, a1, a2, a3])] w fun e w' => e = .returned (.bool true) ∧ Below w.heap.size w w' := by
  have d0 : decide ((0 : Int) ≤ n) = true := by simp; omega
  have d2 : decide (n < 65536) = true := by simp; omega
  have d4 : decide (n < 4294967296) = true := by simp; omega
  have t0 : decide ((1000 : Int) < (s.size : Int)) = false := by simp; omega
  have t7 : decide ((7 : Int) < (s.size : Int)) = true := by simp; omega
  have t8 : decide ((s.size : Int) ≤ 7) = false := by simp; omega
  have hmm : (m0.toNat : Int).tmod 2 = (m0.toNat : Int) % 2 := Int.tmod_eq_emod_of_nonneg (by omega)
  have rm := (Has.fresh w 24 (bs [m0, m1, m2, m3, m4, m5])).alloc (.cells (bs [a0, a1, a2, a3]) 25)
  have ra := Has.fresh (w.alloc (.cells (bs [m0, m1, m2, m3, m4, m5]) 24)) 25 (bs [a0, a1, a2, a3])
  rw [World.size_alloc] at ra
  have B : Below w.heap.size w ((w.alloc (.cells (bs [m0, m1, m2, m3, m4, m5]) 24)).alloc (.cells (bs [a0, a1, a2, a3]) 25)) := ((Below.refl _ _).alloc (Nat.le_refl _) _).alloc (by simp) _
  clear hz hn hn2
  go_enter Tryd.func5, Tryd.ntmps5
  go_upto_region 1 with fail
  change Code.wp _ _ _ _ ((w.alloc (.cells (bs [m0, m1, m2, m3, m4, m5]) 24)).alloc (.cells (bs [a0, a1, a2, a3]) 25))
  generalize (w.alloc (.cells (bs [m0, m1, m2, m3, m4, m5]) 24)).alloc (.cells (bs [a0, a1, a2, a3]) 25) = w0 at rm ra B ⊢
  go_wp2_with fail
  refine (awake_any _).mono ?_
  rintro e v1 ⟨rfl, hb⟩
  replace rm := rm.below hb rm.lt
  replace ra := ra.below hb ra.lt
  replace B := B.trans (hb.mono B.size)
  clear hb
  clear w0
  go_wp2_with fail
  refine (hBT.out _).mono ?_
  rintro e v2 ⟨rfl, hb⟩
  replace rm := rm.below hb rm.lt
  replace ra := ra.below hb ra.lt
  replace B := B.trans (hb.mono B.size)
  clear hb
  go_wp2_with fail
  refine (hBF.out _).mono ?_
  rintro e v3 ⟨rfl, hb⟩
  replace rm := rm.below hb rm.lt
  replace ra := ra.below hb ra.lt
  replace B := B.trans (hb.mono B.size)
  clear hb
  go_wp2_with fail
  refine (hNUM.out _).mono ?_
  rintro e v4 ⟨rfl, rfl⟩
  go_wp2_with fail
  refine (hRM.out _).mono ?_
  rintro e v5 ⟨rfl, hb⟩
  replace rm := rm.below hb rm.lt
  replace ra := ra.below hb ra.lt
  replace B := B.trans (hb.mono B.size)
  clear hb
  go_wp2_with fail
  change Calls Tryd.prog _ _ (v5.alloc (.cells #[B8 b0, B8 b1, B8 b2, B8 b3, B8 b4, B8 b5] 23)) _
  replace rm := rm.alloc (.cells #[B8 b0, B8 b1, B8 b2, B8 b3, B8 b4, B8 b5] 23)
  replace ra := ra.alloc (.cells #[B8 b0, B8 b1, B8 b2, B8 b3, B8 b4, B8 b5] 23)
  have rb := Has.fresh v5 23 #[B8 b0, B8 b1, B8 b2, B8 b3, B8 b4, B8 b5]
  replace B := B.alloc B.size (.cells #[B8 b0, B8 b1, B8 b2, B8 b3, B8 b4, B8 b5] 23)
  generalize v5.alloc (.cells #[B8 b0, B8 b1, B8 b2, B8 b3, B8 b4, B8 b5] 23) = v6 at rm ra rb B ⊢
  generalize v5.heap.size = gb at rb ⊢
  refine (hRI.out _).mono ?_
  rintro e v7 ⟨rfl, hb⟩
  replace rm := rm.below hb rm.lt
  replace ra := ra.below hb ra.lt
  replace rb := rb.below hb rb.lt
  replace B := B.trans (hb.mono B.size)
  clear hb
  go_wp2_with fail
  change Calls Tryd.prog _ _ (v7.alloc (.cells #[B8 c0, B8 c1, B8 c2, B8 c3] 25)) _
  replace rm := rm.alloc (.cells #[B8 c0, B8 c1, B8 c2, B8 c3] 25)
  replace ra := ra.alloc (.cells #[B8 c0, B8 c1, B8 c2, B8 c3] 25)
  replace rb := rb.alloc (.cells #[B8 c0, B8 c1, B8 c2, B8 c3] 25)
  have rc := Has.fresh v7 25 #[B8 c0, B8 c1, B8 c2, B8 c3]
  replace B := B.alloc B.size (.cells #[B8 c0, B8 c1, B8 c2, B8 c3] 25)
  generalize v7.alloc (.cells #[B8 c0, B8 c1, B8 c2, B8 c3] 25) = v8 at rm ra rb rc B ⊢
  generalize v7.heap.size = gc at rc ⊢
  refine (hOM.out _ (hE.below B)).mono ?_
  rintro e v9 ⟨rfl, hb⟩
  replace rm := rm.below hb rm.lt
  replace ra := ra.below hb ra.lt
  replace rb := rb.below hb rb.lt
  replace rc := rc.below hb rc.lt
  replace B := B.trans (hb.mono B.size)
  clear hb
  go_wp2_with fail
  change Calls Tryd.prog _ _ (v9.alloc (.cells #[B8 b0, B8 b1, B8 b2, B8 b3, B8 b4, B8 b5] 24)) _
  replace rm := rm.alloc (.cells #[B8 b0, B8 b1, B8 b2, B8 b3, B8 b4, B8 b5] 24)
  replace ra := ra.alloc (.cells #[B8 b0, B8 b1, B8 b2, B8 b3, B8 b4, B8 b5] 24)
  replace rb := rb.alloc (.cells #[B8 b0, B8 b1, B8 b2, B8 b3, B8 b4, B8 b5] 24)
  replace rc := rc.alloc (.cells #[B8 b0, B8 b1, B8 b2, B8 b3, B8 b4, B8 b5] 24)
  have rd := Has.fresh v9 24 #[B8 b0, B8 b1, B8 b2, B8 b3, B8 b4, B8 b5]
  replace B := B.alloc B.size (.cells #[B8 b0, B8 b1, B8 b2, B8 b3, B8 b4, B8 b5] 24)
  generalize v9.alloc (.cells #[B8 b0, B8 b1, B8 b2, B8 b3, B8 b4, B8 b5] 24) = v10 at rm ra rb rc rd B ⊢
  generalize v9.heap.size = gd at rd ⊢
  refine (hOI.out _ (hE.below B) (hT.below B)).mono ?_
  rintro e v11 ⟨rfl, hb⟩
  replace rm := rm.below hb rm.lt
  replace ra := ra.below hb ra.lt
  replace rb := rb.below hb rb.lt
  replace rc := rc.below hb rc.lt
  replace rd := rd.below hb rd.lt
  replace B := B.trans (hb.mono B.size)
  clear hb
  go_upto_region 15 with fail
  change Code.wp _ _ _ _ (v11.alloc (.cells #[B8 c0, B8 c1, B8 c2, B8 c3] 25))
  replace rm := rm.alloc (.cells #[B8 c0, B8 c1, B8 c2, B8 c3] 25)
  replace ra := ra.alloc (.cells #[B8 c0, B8 c1, B8 c2, B8 c3] 25)
  replace rb := rb.alloc (.cells #[B8 c0, B8 c1, B8 c2, B8 c3] 25)
  replace rc := rc.alloc (.cells #[B8 c0, B8 c1, B8 c2, B8 c3] 25)
  replace rd := rd.alloc (.cells #[B8 c0, B8 c1, B8 c2, B8 c3] 25)
  have ri := Has.fresh v11 25 #[B8 c0, B8 c1, B8 c2, B8 c3]
  replace B := B.alloc B.size (.cells #[B8 c0, B8 c1, B8 c2, B8 c3] 25)
  generalize v11.alloc (.cells #[B8 c0, B8 c1, B8 c2, B8 c3] 25) = v12 at rm ra rb rc rd ri B ⊢
  generalize v11.heap.size = gi at ri ⊢
  refine wp_region_noPanic ?_
  refine wp_region_flow (fin := ?fin3) 63 0 (by kernel_rfl) [.inl (.int .i64 n),
    .inl (S9 T2),
    .inl (S9 T2),
    .inl (.bool true),
    .inl (.bool true),
    .inl (.int .i64 n),
    .inl (S9 T4),
    .inl (S9 T4),
    .inl (.bool true),
    .inl (.bool true),
    .inl (.bool true),
    .inl (.agg (bs [b0, b1, b2, b3, b4, b5])),
    .inl (.agg (bs [b0, b1, b2, b3, b4, b5])),
    .inl (.bool true),
    .inl (.bool true),
    .inl (.bool true),
    .inl (.int .i64 eM),
    .inl (.bool (eM == 0)),
    .inl (.bool (eM == 0)),
    .inl (.bool true),
    .inl (.bool true),
    .inl (.bool true),
    .inl (.agg (bs [c0, c1, c2, c3])),
    .inl (.agg (bs [c0, c1, c2, c3])),
    .inl (.bool true),
    .inl (.bool true),
    .inl (.bool true),
    .inl (.int .i64 eI),
    .inl (.bool (eI == 0)),
    .inl (.bool (eI == 0)),
    .inl (.bool true),
    .inl (.bool true),
    .inl (.bool true),
    .inl (.agg (bs [m0, m1, m2, m3, m4, m5])),
    .inl (S9 MT),
    .inl (.agg (bs [m0, m1, m2, m3, m4, m5])),
    .inl (S9 MT),
    .inl (.bool true),
    .inl (.bool true),
    .inl (.bool true),
    .inl (.agg (bs [a0, a1, a2, a3])),
    .inl (S9 IT),
    .inl (.agg (bs [a0, a1, a2, a3])),
    .inl (S9 IT),
    .inl (.bool true),
    .inl (.bool true),
    .inl (.bool true),
    .inl (.string s),
    .inl (.int .i64 Z),
    .inl (.string s),
    .inl (.int .i64 Z),
    .inl (.bool true),
    .inl (.bool true),
    .inl (.bool true),
    .inl (.agg (bs [m0, m1, m2, m3, m4, m5])),
    .inl (.bool ((m0.toNat : Int) % 2 == 1)),
    .inl (.pointer (some ⟨w.heap.size, 0, none⟩)),
    .inl (B8 m0),
    .inl (.int .u8 ((m0.toNat : Int) % 2)),
    .inl (.bool ((m0.toNat : Int) % 2 == 1)),
    .inl (.bool true),
    .inl (.bool true),
    .inl (.bool true)] rfl rfl (by kernel_rfl) ?hfin3 ?hE3 ?hend3
  case hfin3 =>
    intro G
    simp only [flowAll, flowVal, Act.put, List.setIfInBounds_toArray, List.set_cons_zero, List.set_cons_succ]
    exact rfl
  case hE3 =>
    intro G
    refine ⟨Or.inr (fun W hB => known_val rfl (by go_simp)),
      Or.inr (fun W hB => known_call 10 #[.int .i64 n] (hTWO.out W) rfl (by go_simp)),
      Or.inr (fun W hB => known_val rfl (by go_simp)),
      Or.inr (fun W hB => known_val rfl (by go_simp)),
      Or.inr (fun W hB => known_val rfl (by go_simp)),
      Or.inr (fun W hB => known_val rfl (by go_simp)),
      Or.inr (fun W hB => known_call 9 #[.int .i64 n] (hFOUR.out W) rfl (by go_simp)),
      Or.inr (fun W hB => known_val rfl (by go_simp)),
      Or.inr (fun W hB => known_val rfl (by go_simp)),
      Or.inr (fun W hB => known_val rfl (by go_simp)),
      Or.inr (fun W hB => known_val rfl (by go_simp)),
      Or.inr (fun W hB => known_val rfl (by exact load_mac (.tmp 17) _ [b0, b1, b2, b3, b4, b5] rfl (rd.below (drewB hB) rd.lt) rfl rfl)),
      Or.inr (fun W hB => known_val rfl (by exact load_six (.tmp 13) _ [b0, b1, b2, b3, b4, b5] rfl (rb.below (drewB hB) rb.lt) rfl rfl)),
      Or.inr (fun W hB => known_val rfl (by exact exec_same_mac (.tmp 107) (.tmp 108) [b0, b1, b2, b3, b4, b5] rfl rfl rfl rfl)),
      Or.inr (fun W hB => known_val rfl (by go_simp)),
      Or.inr (fun W hB => known_val rfl (by go_simp)),
      Or.inr (fun W hB => known_val rfl (by go_simp)),
      Or.inr (fun W hB => known_val rfl (by go_simp)),
      Or.inr (fun W hB => known_val rfl (by go_simp)),
      Or.inr (fun W hB => known_val rfl (by go_simp)),
      Or.inr (fun W hB => known_val rfl (by go_simp)),
      Or.inr (fun W hB => known_val rfl (by go_simp)),
      Or.inr (fun W hB => known_val rfl (by exact load_ip (.tmp 19) _ [c0, c1, c2, c3] rfl (ri.below (drewB hB) ri.lt) rfl rfl)),
      Or.inr (fun W hB => known_val rfl (by exact load_ip (.tmp 15) _ [c0, c1, c2, c3] rfl (rc.below (drewB hB) rc.lt) rfl rfl)),
      Or.inr (fun W hB => known_val rfl (by exact exec_same_ip (.tmp 118) (.tmp 119) [c0, c1, c2, c3] rfl rfl rfl rfl)),
      Or.inr (fun W hB => known_val rfl (by go_simp)),
      Or.inr (fun W hB => known_val rfl (by go_simp)),
      Or.inr (fun W hB => known_val rfl (by go_simp)),
      Or.inr (fun W hB => known_val rfl (by go_simp)),
      Or.inr (fun W hB => known_val rfl (by go_simp)),
      Or.inr (fun W hB => known_val rfl (by go_simp)),
      Or.inr (fun W hB => known_val rfl (by go_simp)),
      Or.inr (fun W hB => known_val rfl (by go_simp)),
      Or.inr (fun W hB => known_val rfl (by exact load_mac (.tmp 6) _ [m0, m1, m2, m3, m4, m5] rfl (rm.below (drewB hB) rm.lt) rfl rfl)),
      Or.inr (fun W hB => known_call 12 #[.agg (bs [m0, m1, m2, m3, m4, m5])] (hM1.out W) rfl (by go_simp)),
      Or.inr (fun W hB => known_val rfl (by exact load_mac (.tmp 6) _ [m0, m1, m2, m3, m4, m5] rfl (rm.below (drewB hB) rm.lt) rfl rfl)),
      Or.inr (fun W hB => known_call 19 #[.agg (bs [m0, m1, m2, m3, m4, m5])] (hM2.out W) rfl (by go_simp)),
      Or.inr (fun W hB => known_val rfl (by go_simp)),
      Or.inr (fun W hB => known_val rfl (by go_simp)),
      Or.inr (fun W hB => known_val rfl (by go_simp)),
      Or.inr (fun W hB => known_val rfl (by exact load_ip (.tmp 7) _ [a0, a1, a2, a3] rfl (ra.below (drewB hB) ra.lt) rfl rfl)),
      Or.inr (fun W hB => known_call 14 #[.agg (bs [a0, a1, a2, a3])] (hI1.out W (hT.below (B.trans ((drewB hB).mono B.size)))) rfl (by go_simp)),
      Or.inr (fun W hB => known_val rfl (by exact load_ip (.tmp 7) _ [a0, a1, a2, a3] rfl (ra.below (drewB hB) ra.lt) rfl rfl)),
      Or.inr (fun W hB => known_call 20 #[.agg (bs [a0, a1, a2, a3])] (hI2.out W) rfl (by go_simp)),
      Or.inr (fun W hB => known_val rfl (by go_simp)),
      Or.inr (fun W hB => known_val rfl (by go_simp)),
      Or.inr (fun W hB => known_val rfl (by go_simp)),
      Or.inr (fun W hB => known_val rfl (by go_simp)),
      Or.inr (fun W hB => known_call 21 #[.string s] (hS1.out W) rfl (by go_simp)),
      Or.inr (fun W hB => known_val rfl (by go_simp)),
      Or.inr (fun W hB => known_call 22 #[.string s] (hS2.out W) rfl (by go_simp)),
      Or.inr (fun W hB => known_val rfl (by go_simp)),
      Or.inr (fun W hB => known_val rfl (by go_simp)),
      Or.inr (fun W hB => known_val rfl (by go_simp)),
      Or.inr (fun W hB => known_val rfl (by exact load_mac (.tmp 6) _ [m0, m1, m2, m3, m4, m5] rfl (rm.below (drewB hB) rm.lt) rfl rfl)),
      Or.inr (fun W hB => known_call 23 #[.agg (bs [m0, m1, m2, m3, m4, m5])] (hGR.out W) rfl (by go_simp)),
      Or.inr (fun W hB => known_val rfl (by go_simp)),
      Or.inr (fun W hB => known_val rfl (by (have hcc := (rm.below (drewB hB) rm.lt).byte 0 (by show 0 < 6; omega); go_simp))),
      Or.inr (fun W hB => known_val rfl (by go_simp)),
      Or.inr (fun W hB => known_val rfl (by go_simp)),
      Or.inr (fun W hB => known_val rfl (by go_simp)),
      Or.inr (fun W hB => known_val rfl (by go_simp)),
      Or.inr (fun W hB => known_val rfl (by go_simp)), trivial⟩
  intro G W hB hM
  replace B := B.trans ((drewB hB).mono B.size)
  clear hM hB G
  refine wpAny_end (by kernel_rfl) ?_ _
  refine NoPanic.normal ?_
  go_wp2
  go_ret
  exact ⟨rfl, B⟩
end Go.Proofs.YtbeeebnocliaiaaDoor

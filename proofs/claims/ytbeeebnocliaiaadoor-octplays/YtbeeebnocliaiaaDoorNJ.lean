/- The law OctPlays: walked. -/
import Derived.Test.YtbeeebnocliaiaaDoorNI
import Derived.Test.YtbeeebnocliaiaaDoorNB
import Derived.Test.YtbeeebnocliaiaaDoorNC
import Derived.Test.YtbeeebnocliaiaaDoorND
import Derived.Test.YtbeeebnocliaiaaDoorNE
import Derived.Test.YtbeeebnocliaiaaDoorNG
namespace Go.Proofs.YtbeeebnocliaiaaDoor
open Go.RowKit
section
variable {o : Oper} {ev : Operand → Value} {w : World}
theorem load_six (x : Operand) (g : Nat) (l : List UInt8) (hl : l.length = 6) (h : Has w g 23 (bs l)) (ho : o.op = .load 23 x) (he : ev x = .pointer (some ⟨g, 0, none⟩)) : (execOp ev o).run Tryd.prog w = .ok (.value (.agg (bs l))) w :=
  exec_load_row (P := Tryd.prog) 23 x g h Tryd.underlying23 rfl (refMacInfo l hl) ho he
theorem exec_same_mac (x y : Operand) (l : List UInt8) (hl : l.length = 6) (ho : o.op = .binOp .eql 24 x y 24) (hx : ev x = .agg (bs l)) (hy : ev y = .agg (bs l)) : (execOp ev o).run Tryd.prog w = .ok (.value (.bool true)) w := by
  have hq := eq_mac l l hl hl
  rw [beq_self_eq_true] at hq
  generalize bs l = A at hx hy hq
  unfold execOp
  simp only [ho, hx, hy]
  go_simp
theorem exec_same_ip (x y : Operand) (l : List UInt8) (hl : l.length = 4) (ho : o.op = .binOp .eql 25 x y 25) (hx : ev x = .agg (bs l)) (hy : ev y = .agg (bs l)) : (execOp ev o).run Tryd.prog w = .ok (.value (.bool true)) w := by
  have hq := eq_ip l l hl hl
  rw [beq_self_eq_true] at hq
  generalize bs l = A at hx hy hq
  unfold execOp
  simp only [ho, hx, hy]
  go_simp
end
set_option maxRecDepth 20000 in
set_option maxHeartbeats 8000000 in
theorem playsNS (n : Int) (s : ByteArray) (hs : s.size ≤ 1000) (m0 m1 m2 m3 m4 m5 a0 a1 a2 a3 b0 b1 b2 b3 b4 b5 c0 c1 c2 c3 : UInt8) (MT IT : List UInt8) (Z eM eI : Int) (X : Int) (hn : n < 0) (hz : s.size ≤ 7) (w : World) (hT : HasT w) (hE : HasE w)
    (hTWO : Hid (∀ W, Calls Tryd.prog 10 #[.int .i64 n] W fun e w' => e = .returned (.string ⟨#[]⟩) ∧ Below W.heap.size W w'))
    (hFOUR : Hid (∀ W, Calls Tryd.prog 9 #[.int .i64 n] W fun e w' => e = .returned (.string ⟨#[]⟩) ∧ Below W.heap.size W w'))
    (hNUM : Hid (∀ W, Calls Tryd.prog 8 #[.string s] W fun e w' => e = .returned (.tuple #[.int .i64 X, .int .i64 0]) ∧ w' = W))
    (hRNUM : Hid (∀ W, Calls Tryd.prog 16 #[.string s] W fun e w' => e = .returned (.int .i64 X) ∧ w' = W))
    (hRM : Hid (∀ W, Calls Tryd.prog 17 #[.string s] W fun e w' => e = .returned (.tuple #[.agg #[B8 b0, B8 b1, B8 b2, B8 b3, B8 b4, B8 b5], .bool (eM == 0)]) ∧ Below W.heap.size W w'))
    (hRI : Hid (∀ W, Calls Tryd.prog 18 #[.string s] W fun e w' => e = .returned (.tuple #[.agg #[B8 c0, B8 c1, B8 c2, B8 c3], .bool (eI == 0)]) ∧ Below W.heap.size W w'))
    (hOM : Hid (∀ W, HasE W → Calls Tryd.prog 11 #[.string s] W fun e w' => e = .returned (.tuple #[.agg #[B8 b0, B8 b1, B8 b2, B8 b3, B8 b4, B8 b5], .int .i64 eM]) ∧ Below W.heap.size W w'))
    (hOI : Hid (∀ W, HasE W → HasT W → Calls Tryd.prog 13 #[.string s] W fun e w' => e = .returned (.tuple #[.agg #[B8 c0, B8 c1, B8 c2, B8 c3], .int .i64 eI]) ∧ Below W.heap.size W w'))
    (hS1 : Hid (∀ W, Calls Tryd.prog 21 #[.string s] W fun e w' => e = .returned (.int .i64 Z) ∧ Below W.heap.size W w'))
    (hS2 : Hid (∀ W, Calls Tryd.prog 22 #[.string s] W fun e w' => e = .returned (.int .i64 Z) ∧ Below W.heap.size W w'))
    (hM1 : Hid (∀ W, Calls Tryd.prog 12 #[.agg (bs [m0, m1, m2, m3, m4, m5])] W fun e w' => e = .returned (S9 MT) ∧ Below W.heap.size W w'))
    (hM2 : Hid (∀ W, Calls Tryd.prog 19 #[.agg (bs [m0, m1, m2, m3, m4, m5])] W fun e w' => e = .returned (S9 MT) ∧ Below W.heap.size W w'))
    (hI1 : Hid (∀ W, HasT W → Calls Tryd.prog 14 #[.agg (bs [a0, a1, a2, a3])] W fun e w' => e = .returned (S9 IT) ∧ Below W.heap.size W w'))
    (hI2 : Hid (∀ W, Calls Tryd.prog 20 #[.agg (bs [a0, a1, a2, a3])] W fun e w' => e = .returned (S9 IT) ∧ Below W.heap.size W w'))
    (hGR : Hid (∀ W, Calls Tryd.prog 23 #[.agg (bs [m0, m1, m2, m3, m4, m5])] W fun e w' => e = .returned (.bool ((m0.toNat : Int) % 2 == 1)) ∧ Below W.heap.size W w')) :
    Calls Tryd.prog 5 #[.int .i64 n, .string s, .agg (bs [m0, m1, m2, m3, m4, m5]), .agg (bs [a0, a1, a2, a3])] w fun e w' => e = .returned (.bool true) ∧ Below w.heap.size w w' := by
  have d0 : decide ((0 : Int) ≤ n) = false := by simp; omega
  have t0 : decide ((1000 : Int) < (s.size : Int)) = false := by simp; omega
  have t7 : decide ((7 : Int) < (s.size : Int)) = false := by simp; omega
  have t8 : decide ((s.size : Int) ≤ 7) = true := by simp; omega
  have hmm : (m0.toNat : Int).tmod 2 = (m0.toNat : Int) % 2 := Int.tmod_eq_emod_of_nonneg (by omega)
  have rm := (Has.fresh w 24 (bs [m0, m1, m2, m3, m4, m5])).alloc (.cells (bs [a0, a1, a2, a3]) 25)
  have ra := Has.fresh (w.alloc (.cells (bs [m0, m1, m2, m3, m4, m5]) 24)) 25 (bs [a0, a1, a2, a3])
  rw [World.size_alloc] at ra
  have B : Below w.heap.size w ((w.alloc (.cells (bs [m0, m1, m2, m3, m4, m5]) 24)).alloc (.cells (bs [a0, a1, a2, a3]) 25)) := ((Below.refl _ _).alloc (Nat.le_refl _) _).alloc (by simp) _
  clear hz hn
  go_enter Tryd.func5, Tryd.ntmps5
  go_upto_region 1 with fail
  change Code.wp _ _ _ _ ((w.alloc (.cells (bs [m0, m1, m2, m3, m4, m5]) 24)).alloc (.cells (bs [a0, a1, a2, a3]) 25))
  generalize (w.alloc (.cells (bs [m0, m1, m2, m3, m4, m5]) 24)).alloc (.cells (bs [a0, a1, a2, a3]) 25) = w0 at rm ra B ⊢
  go_wp2_with fail
  refine (awake_any _).mono ?_
  rintro e v1 ⟨rfl, hb⟩
  replace rm := rm.below hb rm.lt
  replace ra := ra.below hb ra.lt
  replace B := B.trans (hb.mono B.size)
  clear hb
  clear w0
  go_wp2_with fail
  refine (hNUM.out _).mono ?_
  rintro e v2 ⟨rfl, rfl⟩
  go_wp2_with fail
  refine (hRNUM.out _).mono ?_
  rintro e v3 ⟨rfl, rfl⟩
  go_wp2_with fail
  refine (hRM.out _).mono ?_
  rintro e v4 ⟨rfl, hb⟩
  replace rm := rm.below hb rm.lt
  replace ra := ra.below hb ra.lt
  replace B := B.trans (hb.mono B.size)
  clear hb
  go_wp2_with fail
  change Calls Tryd.prog _ _ (v4.alloc (.cells #[B8 b0, B8 b1, B8 b2, B8 b3, B8 b4, B8 b5] 23)) _
  replace rm := rm.alloc (.cells #[B8 b0, B8 b1, B8 b2, B8 b3, B8 b4, B8 b5] 23)
  replace ra := ra.alloc (.cells #[B8 b0, B8 b1, B8 b2, B8 b3, B8 b4, B8 b5] 23)
  have rb := Has.fresh v4 23 #[B8 b0, B8 b1, B8 b2, B8 b3, B8 b4, B8 b5]
  replace B := B.alloc B.size (.cells #[B8 b0, B8 b1, B8 b2, B8 b3, B8 b4, B8 b5] 23)
  generalize v4.alloc (.cells #[B8 b0, B8 b1, B8 b2, B8 b3, B8 b4, B8 b5] 23) = v5 at rm ra rb B ⊢
  generalize v4.heap.size = gb at rb ⊢
  refine (hRI.out _).mono ?_
  rintro e v6 ⟨rfl, hb⟩
  replace rm := rm.below hb rm.lt
  replace ra := ra.below hb ra.lt
  replace rb := rb.below hb rb.lt
  replace B := B.trans (hb.mono B.size)
  clear hb
  go_wp2_with fail
  change Calls Tryd.prog _ _ (v6.alloc (.cells #[B8 c0, B8 c1, B8 c2, B8 c3] 25)) _
  replace rm := rm.alloc (.cells #[B8 c0, B8 c1, B8 c2, B8 c3] 25)
  replace ra := ra.alloc (.cells #[B8 c0, B8 c1, B8 c2, B8 c3] 25)
  replace rb := rb.alloc (.cells #[B8 c0, B8 c1, B8 c2, B8 c3] 25)
  have rc := Has.fresh v6 25 #[B8 c0, B8 c1, B8 c2, B8 c3]
  replace B := B.alloc B.size (.cells #[B8 c0, B8 c1, B8 c2, B8 c3] 25)
  generalize v6.alloc (.cells #[B8 c0, B8 c1, B8 c2, B8 c3] 25) = v7 at rm ra rb rc B ⊢
  generalize v6.heap.size = gc at rc ⊢
  refine (hOM.out _ (hE.below B)).mono ?_
  rintro e v8 ⟨rfl, hb⟩
  replace rm := rm.below hb rm.lt
  replace ra := ra.below hb ra.lt
  replace rb := rb.below hb rb.lt
  replace rc := rc.below hb rc.lt
  replace B := B.trans (hb.mono B.size)
  clear hb
  go_wp2_with fail
  change Calls Tryd.prog _ _ (v8.alloc (.cells #[B8 b0, B8 b1, B8 b2, B8 b3, B8 b4, B8 b5] 24)) _
  replace rm := rm.alloc (.cells #[B8 b0, B8 b1, B8 b2, B8 b3, B8 b4, B8 b5] 24)
  replace ra := ra.alloc (.cells #[B8 b0, B8 b1, B8 b2, B8 b3, B8 b4, B8 b5] 24)
  replace rb := rb.alloc (.cells #[B8 b0, B8 b1, B8 b2, B8 b3, B8 b4, B8 b5] 24)
  replace rc := rc.alloc (.cells #[B8 b0, B8 b1, B8 b2, B8 b3, B8 b4, B8 b5] 24)
  have rd := Has.fresh v8 24 #[B8 b0, B8 b1, B8 b2, B8 b3, B8 b4, B8 b5]
  replace B := B.alloc B.size (.cells #[B8 b0, B8 b1, B8 b2, B8 b3, B8 b4, B8 b5] 24)
  generalize v8.alloc (.cells #[B8 b0, B8 b1, B8 b2, B8 b3, B8 b4, B8 b5] 24) = v9 at rm ra rb rc rd B ⊢
  generalize v8.heap.size = gd at rd ⊢
  refine (hOI.out _ (hE.below B) (hT.below B)).mono ?_
  rintro e v10 ⟨rfl, hb⟩
  replace rm := rm.below hb rm.lt
  replace ra := ra.below hb ra.lt
  replace rb := rb.below hb rb.lt
  replace rc := rc.below hb rc.lt
  replace rd := rd.below hb rd.lt
  replace B := B.trans (hb.mono B.size)
  clear hb
  go_upto_region 15 with fail
  change Code.wp _ _ _ _ (v10.alloc (.cells #[B8 c0, B8 c1, B8 c2, B8 c3] 25))
  replace rm := rm.alloc (.cells #[B8 c0, B8 c1, B8 c2, B8 c3] 25)
  replace ra := ra.alloc (.cells #[B8 c0, B8 c1, B8 c2, B8 c3] 25)
  replace rb := rb.alloc (.cells #[B8 c0, B8 c1, B8 c2, B8 c3] 25)
  replace rc := rc.alloc (.cells #[B8 c0, B8 c1, B8 c2, B8 c3] 25)
  replace rd := rd.alloc (.cells #[B8 c0, B8 c1, B8 c2, B8 c3] 25)
  have ri := Has.fresh v10 25 #[B8 c0, B8 c1, B8 c2, B8 c3]
  replace B := B.alloc B.size (.cells #[B8 c0, B8 c1, B8 c2, B8 c3] 25)
  generalize v10.alloc (.cells #[B8 c0, B8 c1, B8 c2, B8 c3] 25) = v11 at rm ra rb rc rd ri B ⊢
  generalize v10.heap.size = gi at ri ⊢
  refine wp_region_noPanic ?_
  refine wp_region_flow (fin := ?fin1) 63 0 (by kernel_rfl) [.inl (.int .i64 n),
    .inl (.string ⟨#[]⟩),
    .inl (.string ⟨#[]⟩),
    .inl (.bool true),
    .inl (.bool true),
    .inl (.int .i64 n),
    .inl (.string ⟨#[]⟩),
    .inl (.string ⟨#[]⟩),
    .inl (.bool true),
    .inl (.bool true),
    .inl (.bool true),
    .inl (.agg (bs [b0, b1, b2, b3, b4, b5])),
    .inl (.agg (bs [b0, b1, b2, b3, b4, b5])),
    .inl (.bool true),
    .inl (.bool true),
    .inl (.bool true),
    .inl (.int .i64 eM),
    .inl (.bool (eM == 0)),
    .inl (.bool (eM == 0)),
    .inl (.bool true),
    .inl (.bool true),
    .inl (.bool true),
    .inl (.agg (bs [c0, c1, c2, c3])),
    .inl (.agg (bs [c0, c1, c2, c3])),
    .inl (.bool true),
    .inl (.bool true),
    .inl (.bool true),
    .inl (.int .i64 eI),
    .inl (.bool (eI == 0)),
    .inl (.bool (eI == 0)),
    .inl (.bool true),
    .inl (.bool true),
    .inl (.bool true),
    .inl (.agg (bs [m0, m1, m2, m3, m4, m5])),
    .inl (S9 MT),
    .inl (.agg (bs [m0, m1, m2, m3, m4, m5])),
    .inl (S9 MT),
    .inl (.bool true),
    .inl (.bool true),
    .inl (.bool true),
    .inl (.agg (bs [a0, a1, a2, a3])),
    .inl (S9 IT),
    .inl (.agg (bs [a0, a1, a2, a3])),
    .inl (S9 IT),
    .inl (.bool true),
    .inl (.bool true),
    .inl (.bool true),
    .inl (.string s),
    .inl (.int .i64 Z),
    .inl (.string s),
    .inl (.int .i64 Z),
    .inl (.bool true),
    .inl (.bool true),
    .inl (.bool true),
    .inl (.agg (bs [m0, m1, m2, m3, m4, m5])),
    .inl (.bool ((m0.toNat : Int) % 2 == 1)),
    .inl (.pointer (some ⟨w.heap.size, 0, none⟩)),
    .inl (B8 m0),
    .inl (.int .u8 ((m0.toNat : Int) % 2)),
    .inl (.bool ((m0.toNat : Int) % 2 == 1)),
    .inl (.bool true),
    .inl (.bool true),
    .inl (.bool true)] rfl rfl (by kernel_rfl) ?hfin1 ?hE1 ?hend1
  case hfin1 =>
    intro G
    simp only [flowAll, flowVal, Act.put, List.setIfInBounds_toArray, List.set_cons_zero, List.set_cons_succ]
    exact rfl
  case hE1 =>
    intro G
    refine ⟨Or.inr (fun W hB => known_val rfl (by go_simp)),
      Or.inr (fun W hB => known_call 10 #[.int .i64 n] (hTWO.out W) rfl (by go_simp)),
      Or.inr (fun W hB => known_val rfl (by go_simp)),
      Or.inr (fun W hB => known_val rfl (by go_simp)),
      Or.inr (fun W hB => known_val rfl (by go_simp)),
      Or.inr (fun W hB => known_val rfl (by go_simp)),
      Or.inr (fun W hB => known_call 9 #[.int .i64 n] (hFOUR.out W) rfl (by go_simp)),
      Or.inr (fun W hB => known_val rfl (by go_simp)),
      Or.inr (fun W hB => known_val rfl (by go_simp)),
      Or.inr (fun W hB => known_val rfl (by go_simp)),
      Or.inr (fun W hB => known_val rfl (by go_simp)),
      Or.inr (fun W hB => known_val rfl (by exact load_mac (.tmp 17) _ [b0, b1, b2, b3, b4, b5] rfl (rd.below (drewB hB) rd.lt) rfl rfl)),
      Or.inr (fun W hB => known_val rfl (by exact load_six (.tmp 13) _ [b0, b1, b2, b3, b4, b5] rfl (rb.below (drewB hB) rb.lt) rfl rfl)),
      Or.inr (fun W hB => known_val rfl (by exact exec_same_mac (.tmp 107) (.tmp 108) [b0, b1, b2, b3, b4, b5] rfl rfl rfl rfl)),
      Or.inr (fun W hB => known_val rfl (by go_simp)),
      Or.inr (fun W hB => known_val rfl (by go_simp)),
      Or.inr (fun W hB => known_val rfl (by go_simp)),
      Or.inr (fun W hB => known_val rfl (by go_simp)),
      Or.inr (fun W hB => known_val rfl (by go_simp)),
      Or.inr (fun W hB => known_val rfl (by go_simp)),
      Or.inr (fun W hB => known_val rfl (by go_simp)),
      Or.inr (fun W hB => known_val rfl (by go_simp)),
      Or.inr (fun W hB => known_val rfl (by exact load_ip (.tmp 19) _ [c0, c1, c2, c3] rfl (ri.below (drewB hB) ri.lt) rfl rfl)),
      Or.inr (fun W hB => known_val rfl (by exact load_ip (.tmp 15) _ [c0, c1, c2, c3] rfl (rc.below (drewB hB) rc.lt) rfl rfl)),
      Or.inr (fun W hB => known_val rfl (by exact exec_same_ip (.tmp 118) (.tmp 119) [c0, c1, c2, c3] rfl rfl rfl rfl)),
      Or.inr (fun W hB => known_val rfl (by go_simp)),
      Or.inr (fun W hB => known_val rfl (by go_simp)),
      Or.inr (fun W hB => known_val rfl (by go_simp)),
      Or.inr (fun W hB => known_val rfl (by go_simp)),
      Or.inr (fun W hB => known_val rfl (by go_simp)),
      Or.inr (fun W hB => known_val rfl (by go_simp)),
      Or.inr (fun W hB => known_val rfl (by go_simp)),
      Or.inr (fun W hB => known_val rfl (by go_simp)),
      Or.inr (fun W hB => known_val rfl (by exact load_mac (.tmp 6) _ [m0, m1, m2, m3, m4, m5] rfl (rm.below (drewB hB) rm.lt) rfl rfl)),
      Or.inr (fun W hB => known_call 12 #[.agg (bs [m0, m1, m2, m3, m4, m5])] (hM1.out W) rfl (by go_simp)),
      Or.inr (fun W hB => known_val rfl (by exact load_mac (.tmp 6) _ [m0, m1, m2, m3, m4, m5] rfl (rm.below (drewB hB) rm.lt) rfl rfl)),
      Or.inr (fun W hB => known_call 19 #[.agg (bs [m0, m1, m2, m3, m4, m5])] (hM2.out W) rfl (by go_simp)),
      Or.inr (fun W hB => known_val rfl (by go_simp)),
      Or.inr (fun W hB => known_val rfl (by go_simp)),
      Or.inr (fun W hB => known_val rfl (by go_simp)),
      Or.inr (fun W hB => known_val rfl (by exact load_ip (.tmp 7) _ [a0, a1, a2, a3] rfl (ra.below (drewB hB) ra.lt) rfl rfl)),
      Or.inr (fun W hB => known_call 14 #[.agg (bs [a0, a1, a2, a3])] (hI1.out W (hT.below (B.trans ((drewB hB).mono B.size)))) rfl (by go_simp)),
      Or.inr (fun W hB => known_val rfl (by exact load_ip (.tmp 7) _ [a0, a1, a2, a3] rfl (ra.below (drewB hB) ra.lt) rfl rfl)),
      Or.inr (fun W hB => known_call 20 #[.agg (bs [a0, a1, a2, a3])] (hI2.out W) rfl (by go_simp)),
      Or.inr (fun W hB => known_val rfl (by go_simp)),
      Or.inr (fun W hB => known_val rfl (by go_simp)),
      Or.inr (fun W hB => known_val rfl (by go_simp)),
      Or.inr (fun W hB => known_val rfl (by go_simp)),
      Or.inr (fun W hB => known_call 21 #[.string s] (hS1.out W) rfl (by go_simp)),
      Or.inr (fun W hB => known_val rfl (by go_simp)),
      Or.inr (fun W hB => known_call 22 #[.string s] (hS2.out W) rfl (by go_simp)),
      Or.inr (fun W hB => known_val rfl (by go_simp)),
      Or.inr (fun W hB => known_val rfl (by go_simp)),
      Or.inr (fun W hB => known_val rfl (by go_simp)),
      Or.inr (fun W hB => known_val rfl (by exact load_mac (.tmp 6) _ [m0, m1, m2, m3, m4, m5] rfl (rm.below (drewB hB) rm.lt) rfl rfl)),
      Or.inr (fun W hB => known_call 23 #[.agg (bs [m0, m1, m2, m3, m4, m5])] (hGR.out W) rfl (by go_simp)),
      Or.inr (fun W hB => known_val rfl (by go_simp)),
      Or.inr (fun W hB => known_val rfl (by (have hcc := (rm.below (drewB hB) rm.lt).byte 0 (by show 0 < 6; omega); go_simp))),
      Or.inr (fun W hB => known_val rfl (by go_simp)),
      Or.inr (fun W hB => known_val rfl (by go_simp)),
      Or.inr (fun W hB => known_val rfl (by go_simp)),
      Or.inr (fun W hB => known_val rfl (by go_simp)),
      Or.inr (fun W hB => known_val rfl (by go_simp)), trivial⟩
  intro G W hB hM
  replace B := B.trans ((drewB hB).mono B.size)
  clear hM hB G
  refine wpAny_end (by kernel_rfl) ?_ _
  refine NoPanic.normal ?_
  go_wp2
  go_ret
  exact ⟨rfl, B⟩
set_option maxRecDepth 20000 in
set_option maxHeartbeats 8000000 in
theorem playsAS (n : Int) (s : ByteArray) (hs : s.size ≤ 1000) (m0 m1 m2 m3 m4 m5 a0 a1 a2 a3 b0 b1 b2 b3 b4 b5 c0 c1 c2 c3 : UInt8) (MT IT : List UInt8) (Z eM eI : Int) (X : Int) (T2 T4 : List UInt8) (hn : 0 ≤ n) (hn2 : n < 65536) (hz : s.size ≤ 7) (w : World) (hT : HasT w) (hE : HasE w)
    (hTWO : Hid (∀ W, Calls Tryd.prog 10 #[.int .i64 n] W fun e w' => e = .returned (S9 T2) ∧ Below W.heap.size W w'))
    (hFOUR : Hid (∀ W, Calls Tryd.prog 9 #[.int .i64 n] W fun e w' => e = .returned (S9 T4) ∧ Below W.heap.size W w'))
    (hBT : Hid (∀ W, Calls Tryd.prog 15 #[.int .i64 n, .int .i64 2] W fun e w' => e = .returned (S9 T2) ∧ Below W.heap.size W w'))
    (hBF : Hid (∀ W, Calls Tryd.prog 15 #[.int .i64 n, .int .i64 4] W fun e w' => e = .returned (S9 T4) ∧ Below W.heap.size W w'))
    (hNUM : Hid (∀ W, Calls Tryd.prog 8 #[.string s] W fun e w' => e = .returned (.tuple #[.int .i64 X, .int .i64 0]) ∧ w' = W))
    (hRNUM : Hid (∀ W, Calls Tryd.prog 16 #[.string s] W fun e w' => e = .returned (.int .i64 X) ∧ w' = W))
    (hRM : Hid (∀ W, Calls Tryd.prog 17 #[.string s] W fun e w' => e = .returned (.tuple #[.agg #[B8 b0, B8 b1, B8 b2, B8 b3, B8 b4, B8 b5], .bool (eM == 0)]) ∧ Below W.heap.size W w'))
    (hRI : Hid (∀ W, Calls Tryd.prog 18 #[.string s] W fun e w' => e = .returned (.tuple #[.agg #[B8 c0, B8 c1, B8 c2, B8 c3], .bool (eI == 0)]) ∧ Below W.heap.size W w'))
    (hOM : Hid (∀ W, HasE W → Calls Tryd.prog 11 #[.string s] W fun e w' => e = .returned (.tuple #[.agg #[B8 b0, B8 b1, B8 b2, B8 b3, B8 b4, B8 b5], .int .i64 eM]) ∧ Below W.heap.size W w'))
    (hOI : Hid (∀ W, HasE W → HasT W → Calls Tryd.prog 13 #[.string s] W fun e w' => e = .returned (.tuple #[.agg #[B8 c0, B8 c1, B8 c2, B8 c3], .int .i64 eI]) ∧ Below W.heap.size W w'))
    (hS1 : Hid (∀ W, Calls Tryd.prog 21 #[.string s] W fun e w' => e = .returned (.int .i64 Z) ∧ Below W.heap.size W w'))
    (hS2 : Hid (∀ W, Calls Tryd.prog 22 #[.string s] W fun e w' => e = .returned (.int .i64 Z) ∧ Below W.heap.size W w'))
    (hM1 : Hid (∀ W, Calls Tryd.prog 12 #[.agg (bs [m0, m1, m2, m3, m4, m5])] W fun e w' => e = .returned (S9 MT) ∧ Below W.heap.size W w'))
    (hM2 : Hid (∀ W, Calls Tryd.prog 19 #[.agg (bs [m0, m1, m2, m3, m4, m5])] W fun e w' => e = .returned (S9 MT) ∧ Below W.heap.size W w'))
    (hI1 : Hid (∀ W, HasT W → Calls Tryd.prog 14 #[.agg (bs [a0, a1, a2, a3])] W fun e w' => e = .returned (S9 IT) ∧ Below W.heap.size W w'))
    (hI2 : Hid (∀ W, Calls Tryd.prog 20 #[.agg (bs [a0, a1, a2, a3])] W fun e w' => e = .returned (S9 IT) ∧ Below W.heap.size W w'))
    (hGR : Hid (∀ W, Calls Tryd.prog 23 #[.agg (bs [m0, m1, m2, m3, m4, m5])] W fun e w' => e = .returned (.bool ((m0.toNat : Int) % 2 == 1)) ∧ Below W.heap.size W w')) :
    Calls Tryd.prog 5 #[.int .i64 n, .string s, .agg (bs [m0, m1, m2, m3, m4, m5]), .agg (bs [a0, a1, a2, a3])] w fun e w' => e = .returned (.bool true) ∧ Below w.heap.size w w' := by
  have d0 : decide ((0 : Int) ≤ n) = true := by simp; omega
  have d2 : decide (n < 65536) = true := by simp; omega
  have d4 : decide (n < 4294967296) = true := by simp; omega
  have t0 : decide ((1000 : Int) < (s.size : Int)) = false := by simp; omega
  have t7 : decide ((7 : Int) < (s.size : Int)) = false := by simp; omega
  have t8 : decide ((s.size : Int) ≤ 7) = true := by simp; omega
  have hmm : (m0.toNat : Int).tmod 2 = (m0.toNat : Int) % 2 := Int.tmod_eq_emod_of_nonneg (by omega)
  have rm := (Has.fresh w 24 (bs [m0, m1, m2, m3, m4, m5])).alloc (.cells (bs [a0, a1, a2, a3]) 25)
  have ra := Has.fresh (w.alloc (.cells (bs [m0, m1, m2, m3, m4, m5]) 24)) 25 (bs [a0, a1, a2, a3])
  rw [World.size_alloc] at ra
  have B : Below w.heap.size w ((w.alloc (.cells (bs [m0, m1, m2, m3, m4, m5]) 24)).alloc (.cells (bs [a0, a1, a2, a3]) 25)) := ((Below.refl _ _).alloc (Nat.le_refl _) _).alloc (by simp) _
  clear hz hn hn2
  go_enter Tryd.func5, Tryd.ntmps5
  go_upto_region 1 with fail
  change Code.wp _ _ _ _ ((w.alloc (.cells (bs [m0, m1, m2, m3, m4, m5]) 24)).alloc (.cells (bs [a0, a1, a2, a3]) 25))
  generalize (w.alloc (.cells (bs [m0, m1, m2, m3, m4, m5]) 24)).alloc (.cells (bs [a0, a1, a2, a3]) 25) = w0 at rm ra B ⊢
  go_wp2_with fail
  refine (awake_any _).mono ?_
  rintro e v1 ⟨rfl, hb⟩
  replace rm := rm.below hb rm.lt
  replace ra := ra.below hb ra.lt
  replace B := B.trans (hb.mono B.size)
  clear hb
  clear w0
  go_wp2_with fail
  refine (hBT.out _).mono ?_
  rintro e v2 ⟨rfl, hb⟩
  replace rm := rm.below hb rm.lt
  replace ra := ra.below hb ra.lt
  replace B := B.trans (hb.mono B.size)
  clear hb
  go_wp2_with fail
  refine (hBF.out _).mono ?_
  rintro e v3 ⟨rfl, hb⟩
  replace rm := rm.below hb rm.lt
  replace ra := ra.below hb ra.lt
  replace B := B.trans (hb.mono B.size)
  clear hb
  go_wp2_with fail
  refine (hNUM.out _).mono ?_
  rintro e v4 ⟨rfl, rfl⟩
  go_wp2_with fail
  refine (hRNUM.out _).mono ?_
  rintro e v5 ⟨rfl, rfl⟩
  go_wp2_with fail
  refine (hRM.out _).mono ?_
  rintro e v6 ⟨rfl, hb⟩
  replace rm := rm.below hb rm.lt
  replace ra := ra.below hb ra.lt
  replace B := B.trans (hb.mono B.size)
  clear hb
  go_wp2_with fail
  change Calls Tryd.prog _ _ (v6.alloc (.cells #[B8 b0, B8 b1, B8 b2, B8 b3, B8 b4, B8 b5] 23)) _
  replace rm := rm.alloc (.cells #[B8 b0, B8 b1, B8 b2, B8 b3, B8 b4, B8 b5] 23)
  replace ra := ra.alloc (.cells #[B8 b0, B8 b1, B8 b2, B8 b3, B8 b4, B8 b5] 23)
  have rb := Has.fresh v6 23 #[B8 b0, B8 b1, B8 b2, B8 b3, B8 b4, B8 b5]
  replace B := B.alloc B.size (.cells #[B8 b0, B8 b1, B8 b2, B8 b3, B8 b4, B8 b5] 23)
  generalize v6.alloc (.cells #[B8 b0, B8 b1, B8 b2, B8 b3, B8 b4, B8 b5] 23) = v7 at rm ra rb B ⊢
  generalize v6.heap.size = gb at rb ⊢
  refine (hRI.out _).mono ?_
  rintro e v8 ⟨rfl, hb⟩
  replace rm := rm.below hb rm.lt
  replace ra := ra.below hb ra.lt
  replace rb := rb.below hb rb.lt
  replace B := B.trans (hb.mono B.size)
  clear hb
  go_wp2_with fail
  change Calls Tryd.prog _ _ (v8.alloc (.cells #[B8 c0, B8 c1, B8 c2, B8 c3] 25)) _
  replace rm := rm.alloc (.cells #[B8 c0, B8 c1, B8 c2, B8 c3] 25)
  replace ra := ra.alloc (.cells #[B8 c0, B8 c1, B8 c2, B8 c3] 25)
  replace rb := rb.alloc (.cells #[B8 c0, B8 c1, B8 c2, B8 c3] 25)
  have rc := Has.fresh v8 25 #[B8 c0, B8 c1, B8 c2, B8 c3]
  replace B := B.alloc B.size (.cells #[B8 c0, B8 c1, B8 c2, B8 c3] 25)
  generalize v8.alloc (.cells #[B8 c0, B8 c1, B8 c2, B8 c3] 25) = v9 at rm ra rb rc B ⊢
  generalize v8.heap.size = gc at rc ⊢
  refine (hOM.out _ (hE.below B)).mono ?_
  rintro e v10 ⟨rfl, hb⟩
  replace rm := rm.below hb rm.lt
  replace ra := ra.below hb ra.lt
  replace rb := rb.below hb rb.lt
  replace rc := rc.below hb rc.lt
  replace B := B.trans (hb.mono B.size)
  clear hb
  go_wp2_with fail
  change Calls Tryd.prog _ _ (v10.alloc (.cells #[B8 b0, B8 b1, B8 b2, B8 b3, B8 b4, B8 b5] 24)) _
  replace rm := rm.alloc (.cells #[B8 b0, B8 b1, B8 b2, B8 b3, B8 b4, B8 b5] 24)
  replace ra := ra.alloc (.cells #[B8 b0, B8 b1, B8 b2, B8 b3, B8 b4, B8 b5] 24)
  replace rb := rb.alloc (.cells #[B8 b0, B8 b1, B8 b2, B8 b3, B8 b4, B8 b5] 24)
  replace rc := rc.alloc (.cells #[B8 b0, B8 b1, B8 b2, B8 b3, B8 b4, B8 b5] 24)
  have rd := Has.fresh v10 24 #[B8 b0, B8 b1, B8 b2, B8 b3, B8 b4, B8 b5]
  replace B := B.alloc B.size (.cells #[B8 b0, B8 b1, B8 b2, B8 b3, B8 b4, B8 b5] 24)
  generalize v10.alloc (.cells #[B8 b0, B8 b1, B8 b2, B8 b3, B8 b4, B8 b5] 24) = v11 at rm ra rb rc rd B ⊢
  generalize v10.heap.size = gd at rd ⊢
  refine (hOI.out _ (hE.below B) (hT.below B)).mono ?_
  rintro e v12 ⟨rfl, hb⟩
  replace rm := rm.below hb rm.lt
  replace ra := ra.below hb ra.lt
  replace rb := rb.below hb rb.lt
  replace rc := rc.below hb rc.lt
  replace rd := rd.below hb rd.lt
  replace B := B.trans (hb.mono B.size)
  clear hb
  go_upto_region 15 with fail
  change Code.wp _ _ _ _ (v12.alloc (.cells #[B8 c0, B8 c1, B8 c2, B8 c3] 25))
  replace rm := rm.alloc (.cells #[B8 c0, B8 c1, B8 c2, B8 c3] 25)
  replace ra := ra.alloc (.cells #[B8 c0, B8 c1, B8 c2, B8 c3] 25)
  replace rb := rb.alloc (.cells #[B8 c0, B8 c1, B8 c2, B8 c3] 25)
  replace rc := rc.alloc (.cells #[B8 c0, B8 c1, B8 c2, B8 c3] 25)
  replace rd := rd.alloc (.cells #[B8 c0, B8 c1, B8 c2, B8 c3] 25)
  have ri := Has.fresh v12 25 #[B8 c0, B8 c1, B8 c2, B8 c3]
  replace B := B.alloc B.size (.cells #[B8 c0, B8 c1, B8 c2, B8 c3] 25)
  generalize v12.alloc (.cells #[B8 c0, B8 c1, B8 c2, B8 c3] 25) = v13 at rm ra rb rc rd ri B ⊢
  generalize v12.heap.size = gi at ri ⊢
  refine wp_region_noPanic ?_
  refine wp_region_flow (fin := ?fin2) 63 0 (by kernel_rfl) [.inl (.int .i64 n),
    .inl (S9 T2),
    .inl (S9 T2),
    .inl (.bool true),
    .inl (.bool true),
    .inl (.int .i64 n),
    .inl (S9 T4),
    .inl (S9 T4),
    .inl (.bool true),
    .inl (.bool true),
    .inl (.bool true),
    .inl (.agg (bs [b0, b1, b2, b3, b4, b5])),
    .inl (.agg (bs [b0, b1, b2, b3, b4, b5])),
    .inl (.bool true),
    .inl (.bool true),
    .inl (.bool true),
    .inl (.int .i64 eM),
    .inl (.bool (eM == 0)),
    .inl (.bool (eM == 0)),
    .inl (.bool true),
    .inl (.bool true),
    .inl (.bool true),
    .inl (.agg (bs [c0, c1, c2, c3])),
    .inl (.agg (bs [c0, c1, c2, c3])),
    .inl (.bool true),
    .inl (.bool true),
    .inl (.bool true),
    .inl (.int .i64 eI),
    .inl (.bool (eI == 0)),
    .inl (.bool (eI == 0)),
    .inl (.bool true),
    .inl (.bool true),
    .inl (.bool true),
    .inl (.agg (bs [m0, m1, m2, m3, m4, m5])),
    .inl (S9 MT),
    .inl (.agg (bs [m0, m1, m2, m3, m4, m5])),
    .inl (S9 MT),
    .inl (.bool true),
    .inl (.bool true),
    .inl (.bool true),
    .inl (.agg (bs [a0, a1, a2, a3])),
    .inl (S9 IT),
    .inl (.agg (bs [a0, a1, a2, a3])),
    .inl (S9 IT),
    .inl (.bool true),
    .inl (.bool true),
    .inl (.bool true),
    .inl (.string s),
    .inl (.int .i64 Z),
    .inl (.string s),
    .inl (.int .i64 Z),
    .inl (.bool true),
    .inl (.bool true),
    .inl (.bool true),
    .inl (.agg (bs [m0, m1, m2, m3, m4, m5])),
    .inl (.bool ((m0.toNat : Int) % 2 == 1)),
    .inl (.pointer (some ⟨w.heap.size, 0, none⟩)),
    .inl (B8 m0),
    .inl (.int .u8 ((m0.toNat : Int) % 2)),
    .inl (.bool ((m0.toNat : Int) % 2 == 1)),
    .inl (.bool true),
    .inl (.bool true),
    .inl (.bool true)] rfl rfl (by kernel_rfl) ?hfin2 ?hE2 ?hend2
  case hfin2 =>
    intro G
    simp only [flowAll, flowVal, Act.put, List.setIfInBounds_toArray, List.set_cons_zero, List.set_cons_succ]
    exact rfl
  case hE2 =>
    intro G
    refine ⟨Or.inr (fun W hB => known_val rfl (by go_simp)),
      Or.inr (fun W hB => known_call 10 #[.int .i64 n] (hTWO.out W) rfl (by go_simp)),
      Or.inr (fun W hB => known_val rfl (by go_simp)),
      Or.inr (fun W hB => known_val rfl (by go_simp)),
      Or.inr (fun W hB => known_val rfl (by go_simp)),
      Or.inr (fun W hB => known_val rfl (by go_simp)),
      Or.inr (fun W hB => known_call 9 #[.int .i64 n] (hFOUR.out W) rfl (by go_simp)),
      Or.inr (fun W hB => known_val rfl (by go_simp)),
      Or.inr (fun W hB => known_val rfl (by go_simp)),
      Or.inr (fun W hB => known_val rfl (by go_simp)),
      Or.inr (fun W hB => known_val rfl (by go_simp)),
      Or.inr (fun W hB => known_val rfl (by exact load_mac (.tmp 17) _ [b0, b1, b2, b3, b4, b5] rfl (rd.below (drewB hB) rd.lt) rfl rfl)),
      Or.inr (fun W hB => known_val rfl (by exact load_six (.tmp 13) _ [b0, b1, b2, b3, b4, b5] rfl (rb.below (drewB hB) rb.lt) rfl rfl)),
      Or.inr (fun W hB => known_val rfl (by exact exec_same_mac (.tmp 107) (.tmp 108) [b0, b1, b2, b3, b4, b5] rfl rfl rfl rfl)),
      Or.inr (fun W hB => known_val rfl (by go_simp)),
      Or.inr (fun W hB => known_val rfl (by go_simp)),
      Or.inr (fun W hB => known_val rfl (by go_simp)),
      Or.inr (fun W hB => known_val rfl (by go_simp)),
      Or.inr (fun W hB => known_val rfl (by go_simp)),
      Or.inr (fun W hB => known_val rfl (by go_simp)),
      Or.inr (fun W hB => known_val rfl (by go_simp)),
      Or.inr (fun W hB => known_val rfl (by go_simp)),
      Or.inr (fun W hB => known_val rfl (by exact load_ip (.tmp 19) _ [c0, c1, c2, c3] rfl (ri.below (drewB hB) ri.lt) rfl rfl)),
      Or.inr (fun W hB => known_val rfl (by exact load_ip (.tmp 15) _ [c0, c1, c2, c3] rfl (rc.below (drewB hB) rc.lt) rfl rfl)),
      Or.inr (fun W hB => known_val rfl (by exact exec_same_ip (.tmp 118) (.tmp 119) [c0, c1, c2, c3] rfl rfl rfl rfl)),
      Or.inr (fun W hB => known_val rfl (by go_simp)),
      Or.inr (fun W hB => known_val rfl (by go_simp)),
      Or.inr (fun W hB => known_val rfl (by go_simp)),
      Or.inr (fun W hB => known_val rfl (by go_simp)),
      Or.inr (fun W hB => known_val rfl (by go_simp)),
      Or.inr (fun W hB => known_val rfl (by go_simp)),
      Or.inr (fun W hB => known_val rfl (by go_simp)),
      Or.inr (fun W hB => known_val rfl (by go_simp)),
      Or.inr (fun W hB => known_val rfl (by exact load_mac (.tmp 6) _ [m0, m1, m2, m3, m4, m5] rfl (rm.below (drewB hB) rm.lt) rfl rfl)),
      Or.inr (fun W hB => known_call 12 #[.agg (bs [m0, m1, m2, m3, m4, m5])] (hM1.out W) rfl (by go_simp)),
      Or.inr (fun W hB => known_val rfl (by exact load_mac (.tmp 6) _ [m0, m1, m2, m3, m4, m5] rfl (rm.below (drewB hB) rm.lt) rfl rfl)),
      Or.inr (fun W hB => known_call 19 #[.agg (bs [m0, m1, m2, m3, m4, m5])] (hM2.out W) rfl (by go_simp)),
      Or.inr (fun W hB => known_val rfl (by go_simp)),
      Or.inr (fun W hB => known_val rfl (by go_simp)),
      Or.inr (fun W hB => known_val rfl (by go_simp)),
      Or.inr (fun W hB => known_val rfl (by exact load_ip (.tmp 7) _ [a0, a1, a2, a3] rfl (ra.below (drewB hB) ra.lt) rfl rfl)),
      Or.inr (fun W hB => known_call 14 #[.agg (bs [a0, a1, a2, a3])] (hI1.out W (hT.below (B.trans ((drewB hB).mono B.size)))) rfl (by go_simp)),
      Or.inr (fun W hB => known_val rfl (by exact load_ip (.tmp 7) _ [a0, a1, a2, a3] rfl (ra.below (drewB hB) ra.lt) rfl rfl)),
      Or.inr (fun W hB => known_call 20 #[.agg (bs [a0, a1, a2, a3])] (hI2.out W) rfl (by go_simp)),
      Or.inr (fun W hB => known_val rfl (by go_simp)),
      Or.inr (fun W hB => known_val rfl (by go_simp)),
      Or.inr (fun W hB => known_val rfl (by go_simp)),
      Or.inr (fun W hB => known_val rfl (by go_simp)),
      Or.inr (fun W hB => known_call 21 #[.string s] (hS1.out W) rfl (by go_simp)),
      Or.inr (fun W hB => known_val rfl (by go_simp)),
      Or.inr (fun W hB => known_call 22 #[.string s] (hS2.out W) rfl (by go_simp)),
      Or.inr (fun W hB => known_val rfl (by go_simp)),
      Or.inr (fun W hB => known_val rfl (by go_simp)),
      Or.inr (fun W hB => known_val rfl (by go_simp)),
      Or.inr (fun W hB => known_val rfl (by exact load_mac (.tmp 6) _ [m0, m1, m2, m3, m4, m5] rfl (rm.below (drewB hB) rm.lt) rfl rfl)),
      Or.inr (fun W hB => known_call 23 #[.agg (bs [m0, m1, m2, m3, m4, m5])] (hGR.out W) rfl (by go_simp)),
      Or.inr (fun W hB => known_val rfl (by go_simp)),
      Or.inr (fun W hB => known_val rfl (by (have hcc := (rm.below (drewB hB) rm.lt).byte 0 (by show 0 < 6; omega); go_simp))),
      Or.inr (fun W hB => known_val rfl (by go_simp)),
      Or.inr (fun W hB => known_val rfl (by go_simp)),
      Or.inr (fun W hB => known_val rfl (by go_simp)),
      Or.inr (fun W hB => known_val rfl (by go_simp)),
      Or.inr (fun W hB => known_val rfl (by go_simp)), trivial⟩
  intro G W hB hM
  replace B := B.trans ((drewB hB).mono B.size)
  clear hM hB G
  refine wpAny_end (by kernel_rfl) ?_ _
  refine NoPanic.normal ?_
  go_wp2
  go_ret
  exact ⟨rfl, B⟩
set_option maxRecDepth 20000 in
set_option maxHeartbeats 8000000 in
theorem playsCS (n : Int) (s : ByteArray) (hs : s.size ≤ 1000) (m0 m1 m2 m3 m4 m5 a0 a1 a2 a3 b0 b1 b2 b3 b4 b5 c0 c1 c2 c3 : UInt8) (MT IT : List UInt8) (Z eM eI : Int) (X : Int) (hn : 0 ≤ n) (hn4 : ¬ n < 4294967296) (hz : s.size ≤ 7) (w : World) (hT : HasT w) (hE : HasE w)
    (hTWO : Hid (∀ W, Calls Tryd.prog 10 #[.int .i64 n] W fun e w' => e = .returned (.string ⟨#[]⟩) ∧ Below W.heap.size W w'))
    (hFOUR : Hid (∀ W, Calls Tryd.prog 9 #[.int .i64 n] W fun e w' => e = .returned (.string ⟨#[]⟩) ∧ Below W.heap.size W w'))
    (hNUM : Hid (∀ W, Calls Tryd.prog 8 #[.string s] W fun e w' => e = .returned (.tuple #[.int .i64 X, .int .i64 0]) ∧ w' = W))
    (hRNUM : Hid (∀ W, Calls Tryd.prog 16 #[.string s] W fun e w' => e = .returned (.int .i64 X) ∧ w' = W))
    (hRM : Hid (∀ W, Calls Tryd.prog 17 #[.string s] W fun e w' => e = .returned (.tuple #[.agg #[B8 b0, B8 b1, B8 b2, B8 b3, B8 b4, B8 b5], .bool (eM == 0)]) ∧ Below W.heap.size W w'))
    (hRI : Hid (∀ W, Calls Tryd.prog 18 #[.string s] W fun e w' => e = .returned (.tuple #[.agg #[B8 c0, B8 c1, B8 c2, B8 c3], .bool (eI == 0)]) ∧ Below W.heap.size W w'))
    (hOM : Hid (∀ W, HasE W → Calls Tryd.prog 11 #[.string s] W fun e w' => e = .returned (.tuple #[.agg #[B8 b0, B8 b1, B8 b2, B8 b3, B8 b4, B8 b5], .int .i64 eM]) ∧ Below W.heap.size W w'))
    (hOI : Hid (∀ W, HasE W → HasT W → Calls Tryd.prog 13 #[.string s] W fun e w' => e = .returned (.tuple #[.agg #[B8 c0, B8 c1, B8 c2, B8 c3], .int .i64 eI]) ∧ Below W.heap.size W w'))
    (hS1 : Hid (∀ W, Calls Tryd.prog 21 #[.string s] W fun e w' => e = .returned (.int .i64 Z) ∧ Below W.heap.size W w'))
    (hS2 : Hid (∀ W, Calls Tryd.prog 22 #[.string s] W fun e w' => e = .returned (.int .i64 Z) ∧ Below W.heap.size W w'))
    (hM1 : Hid (∀ W, Calls Tryd.prog 12 #[.agg (bs [m0, m1, m2, m3, m4, m5])] W fun e w' => e = .returned (S9 MT) ∧ Below W.heap.size W w'))
    (hM2 : Hid (∀ W, Calls Tryd.prog 19 #[.agg (bs [m0, m1, m2, m3, m4, m5])] W fun e w' => e = .returned (S9 MT) ∧ Below W.heap.size W w'))
    (hI1 : Hid (∀ W, HasT W → Calls Tryd.prog 14 #[.agg (bs [a0, a1, a2, a3])] W fun e w' => e = .returned (S9 IT) ∧ Below W.heap.size W w'))
    (hI2 : Hid (∀ W, Calls Tryd.prog 20 #[.agg (bs [a0, a1, a2, a3])] W fun e w' => e = .returned (S9 IT) ∧ Below W.heap.size W w'))
    (hGR : Hid (∀ W, Calls Tryd.prog 23 #[.agg (bs [m0, m1, m2, m3, m4, m5])] W fun e w' => e = .returned (.bool ((m0.toNat : Int) % 2 == 1)) ∧ Below W.heap.size W w')) :
    Calls Tryd.prog 5 #[.int .i64 n, .string s, .agg (bs [m0, m1, m2, m3, m4, m5]), .agg (bs [a0, a1, a2, a3])] w fun e w' => e = .returned (.bool true) ∧ Below w.heap.size w w' := by
  have d0 : decide ((0 : Int) ≤ n) = true := by simp; omega
  have d2 : decide (n < 65536) = false := by simp; omega
  have d4 : decide (n < 4294967296) = false := by simp; omega
  have t0 : decide ((1000 : Int) < (s.size : Int)) = false := by simp; omega
  have t7 : decide ((7 : Int) < (s.size : Int)) = false := by simp; omega
  have t8 : decide ((s.size : Int) ≤ 7) = true := by simp; omega
  have hmm : (m0.toNat : Int).tmod 2 = (m0.toNat : Int) % 2 := Int.tmod_eq_emod_of_nonneg (by omega)
  have rm := (Has.fresh w 24 (bs [m0, m1, m2, m3, m4, m5])).alloc (.cells (bs [a0, a1, a2, a3]) 25)
  have ra := Has.fresh (w.alloc (.cells (bs [m0, m1, m2, m3, m4, m5]) 24)) 25 (bs [a0, a1, a2, a3])
  rw [World.size_alloc] at ra
  have B : Below w.heap.size w ((w.alloc (.cells (bs [m0, m1, m2, m3, m4, m5]) 24)).alloc (.cells (bs [a0, a1, a2, a3]) 25)) := ((Below.refl _ _).alloc (Nat.le_refl _) _).alloc (by simp) _
  clear hz hn hn4
  go_enter Tryd.func5, Tryd.ntmps5
  go_upto_region 1 with fail
  change Code.wp _ _ _ _ ((w.alloc (.cells (bs [m0, m1, m2, m3, m4, m5]) 24)).alloc (.cells (bs [a0, a1, a2, a3]) 25))
  generalize (w.alloc (.cells (bs [m0, m1, m2, m3, m4, m5]) 24)).alloc (.cells (bs [a0, a1, a2, a3]) 25) = w0 at rm ra B ⊢
  go_wp2_with fail
  refine (awake_any _).mono ?_
  rintro e v1 ⟨rfl, hb⟩
  replace rm := rm.below hb rm.lt
  replace ra := ra.below hb ra.lt
  replace B := B.trans (hb.mono B.size)
  clear hb
  clear w0
  go_wp2_with fail
  refine (hNUM.out _).mono ?_
  rintro e v2 ⟨rfl, rfl⟩
  go_wp2_with fail
  refine (hRNUM.out _).mono ?_
  rintro e v3 ⟨rfl, rfl⟩
  go_wp2_with fail
  refine (hRM.out _).mono ?_
  rintro e v4 ⟨rfl, hb⟩
  replace rm := rm.below hb rm.lt
  replace ra := ra.below hb ra.lt
  replace B := B.trans (hb.mono B.size)
  clear hb
  go_wp2_with fail
  change Calls Tryd.prog _ _ (v4.alloc (.cells #[B8 b0, B8 b1, B8 b2, B8 b3, B8 b4, B8 b5] 23)) _
  replace rm := rm.alloc (.cells #[B8 b0, B8 b1, B8 b2, B8 b3, B8 b4, B8 b5] 23)
  replace ra := ra.alloc (.cells #[B8 b0, B8 b1, B8 b2, B8 b3, B8 b4, B8 b5] 23)
  have rb := Has.fresh v4 23 #[B8 b0, B8 b1, B8 b2, B8 b3, B8 b4, B8 b5]
  replace B := B.alloc B.size (.cells #[B8 b0, B8 b1, B8 b2, B8 b3, B8 b4, B8 b5] 23)
  generalize v4.alloc (.cells #[B8 b0, B8 b1, B8 b2, B8 b3, B8 b4, B8 b5] 23) = v5 at rm ra rb B ⊢
  generalize v4.heap.size = gb at rb ⊢
  refine (hRI.out _).mono ?_
  rintro e v6 ⟨rfl, hb⟩
  replace rm := rm.below hb rm.lt
  replace ra := ra.below hb ra.lt
  replace rb := rb.below hb rb.lt
  replace B := B.trans (hb.mono B.size)
  clear hb
  go_wp2_with fail
  change Calls Tryd.prog _ _ (v6.alloc (.cells #[B8 c0, B8 c1, B8 c2, B8 c3] 25)) _
  replace rm := rm.alloc (.cells #[B8 c0, B8 c1, B8 c2, B8 c3] 25)
  replace ra := ra.alloc (.cells #[B8 c0, B8 c1, B8 c2, B8 c3] 25)
  replace rb := rb.alloc (.cells #[B8 c0, B8 c1, B8 c2, B8 c3] 25)
  have rc := Has.fresh v6 25 #[B8 c0, B8 c1, B8 c2, B8 c3]
  replace B := B.alloc B.size (.cells #[B8 c0, B8 c1, B8 c2, B8 c3] 25)
  generalize v6.alloc (.cells #[B8 c0, B8 c1, B8 c2, B8 c3] 25) = v7 at rm ra rb rc B ⊢
  generalize v6.heap.size = gc at rc ⊢
  refine (hOM.out _ (hE.below B)).mono ?_
  rintro e v8 ⟨rfl, hb⟩
  replace rm := rm.below hb rm.lt
  replace ra := ra.below hb ra.lt
  replace rb := rb.below hb rb.lt
  replace rc := rc.below hb rc.lt
  replace B := B.trans (hb.mono B.size)
  clear hb
  go_wp2_with fail
  change Calls Tryd.prog _ _ (v8.alloc (.cells #[B8 b0, B8 b1, B8 b2, B8 b3, B8 b4, B8 b5] 24)) _
  replace rm := rm.alloc (.cells #[B8 b0, B8 b1, B8 b2, B8 b3, B8 b4, B8 b5] 24)
  replace ra := ra.alloc (.cells #[B8 b0, B8 b1, B8 b2, B8 b3, B8 b4, B8 b5] 24)
  replace rb := rb.alloc (.cells #[B8 b0, B8 b1, B8 b2, B8 b3, B8 b4, B8 b5] 24)
  replace rc := rc.alloc (.cells #[B8 b0, B8 b1, B8 b2, B8 b3, B8 b4, B8 b5] 24)
  have rd := Has.fresh v8 24 #[B8 b0, B8 b1, B8 b2, B8 b3, B8 b4, B8 b5]
  replace B := B.alloc B.size (.cells #[B8 b0, B8 b1, B8 b2, B8 b3, B8 b4, B8 b5] 24)
  generalize v8.alloc (.cells #[B8 b0, B8 b1, B8 b2, B8 b3, B8 b4, B8 b5] 24) = v9 at rm ra rb rc rd B ⊢
  generalize v8.heap.size = gd at rd ⊢
  refine (hOI.out _ (hE.below B) (hT.below B)).mono ?_
  rintro e v10 ⟨rfl, hb⟩
  replace rm := rm.below hb rm.lt
  replace ra := ra.below hb ra.lt
  replace rb := rb.below hb rb.lt
  replace rc := rc.below hb rc.lt
  replace rd := rd.below hb rd.lt
  replace B := B.trans (hb.mono B.size)
  clear hb
  go_upto_region 15 with fail
  change Code.wp _ _ _ _ (v10.alloc (.cells #[B8 c0, B8 c1, B8 c2, B8 c3] 25))
  replace rm := rm.alloc (.cells #[B8 c0, B8 c1, B8 c2, B8 c3] 25)
  replace ra := ra.alloc (.cells #[B8 c0, B8 c1, B8 c2, B8 c3] 25)
  replace rb := rb.alloc (.cells #[B8 c0, B8 c1, B8 c2, B8 c3] 25)
  replace rc := rc.alloc (.cells #[B8 c0, B8 c1, B8 c2, B8 c3] 25)
  replace rd := rd.alloc (.cells #[B8 c0, B8 c1, B8 c2, B8 c3] 25)
  have ri := Has.fresh v10 25 #[B8 c0, B8 c1, B8 c2, B8 c3]
  replace B := B.alloc B.size (.cells #[B8 c0, B8 c1, B8 c2, B8 c3] 25)
  generalize v10.alloc (.cells #[B8 c0, B8 c1, B8 c2, B8 c3] 25) = v11 at rm ra rb rc rd ri B ⊢
  generalize v10.heap.size = gi at ri ⊢
  refine wp_region_noPanic ?_
  refine wp_region_flow (fin := ?fin3) 63 0 (by kernel_rfl) [.inl (.int .i64 n),
    .inl (.string ⟨#[]⟩),
    .inl (.string ⟨#[]⟩),
    .inl (.bool true),
    .inl (.bool true),
    .inl (.int .i64 n),
    .inl (.string ⟨#[]⟩),
    .inl (.string ⟨#[]⟩),
    .inl (.bool true),
    .inl (.bool true),
    .inl (.bool true),
    .inl (.agg (bs [b0, b1, b2, b3, b4, b5])),
    .inl (.agg (bs [b0, b1, b2, b3, b4, b5])),
    .inl (.bool true),
    .inl (.bool true),
    .inl (.bool true),
    .inl (.int .i64 eM),
    .inl (.bool (eM == 0)),
    .inl (.bool (eM == 0)),
    .inl (.bool true),
    .inl (.bool true),
    .inl (.bool true),
    .inl (.agg (bs [c0, c1, c2, c3])),
    .inl (.agg (bs [c0, c1, c2, c3])),
    .inl (.bool true),
    .inl (.bool true),
    .inl (.bool true),
    .inl (.int .i64 eI),
    .inl (.bool (eI == 0)),
    .inl (.bool (eI == 0)),
    .inl (.bool true),
    .inl (.bool true),
    .inl (.bool true),
    .inl (.agg (bs [m0, m1, m2, m3, m4, m5])),
    .inl (S9 MT),
    .inl (.agg (bs [m0, m1, m2, m3, m4, m5])),
    .inl (S9 MT),
    .inl (.bool true),
    .inl (.bool true),
    .inl (.bool true),
    .inl (.agg (bs [a0, a1, a2, a3])),
    .inl (S9 IT),
    .inl (.agg (bs [a0, a1, a2, a3])),
    .inl (S9 IT),
    .inl (.bool true),
    .inl (.bool true),
    .inl (.bool true),
    .inl (.string s),
    .inl (.int .i64 Z),
    .inl (.string s),
    .inl (.int .i64 Z),
    .inl (.bool true),
    .inl (.bool true),
    .inl (.bool true),
    .inl (.agg (bs [m0, m1, m2, m3, m4, m5])),
    .inl (.bool ((m0.toNat : Int) % 2 == 1)),
    .inl (.pointer (some ⟨w.heap.size, 0, none⟩)),
    .inl (B8 m0),
    .inl (.int .u8 ((m0.toNat : Int) % 2)),
    .inl (.bool ((m0.toNat : Int) % 2 == 1)),
    .inl (.bool true),
    .inl (.bool true),
    .inl (.bool true)] rfl rfl (by kernel_rfl) ?hfin3 ?hE3 ?hend3
  case hfin3 =>
    intro G
    simp only [flowAll, flowVal, Act.put, List.setIfInBounds_toArray, List.set_cons_zero, List.set_cons_succ]
    exact rfl
  case hE3 =>
    intro G
    refine ⟨Or.inr (fun W hB => known_val rfl (by go_simp)),
      Or.inr (fun W hB => known_call 10 #[.int .i64 n] (hTWO.out W) rfl (by go_simp)),
      Or.inr (fun W hB => known_val rfl (by go_simp)),
      Or.inr (fun W hB => known_val rfl (by go_simp)),
      Or.inr (fun W hB => known_val rfl (by go_simp)),
      Or.inr (fun W hB => known_val rfl (by go_simp)),
      Or.inr (fun W hB => known_call 9 #[.int .i64 n] (hFOUR.out W) rfl (by go_simp)),
      Or.inr (fun W hB => known_val rfl (by go_simp)),
      Or.inr (fun W hB => known_val rfl (by go_simp)),
      Or.inr (fun W hB => known_val rfl (by go_simp)),
      Or.inr (fun W hB => known_val rfl (by go_simp)),
      Or.inr (fun W hB => known_val rfl (by exact load_mac (.tmp 17) _ [b0, b1, b2, b3, b4, b5] rfl (rd.below (drewB hB) rd.lt) rfl rfl)),
      Or.inr (fun W hB => known_val rfl (by exact load_six (.tmp 13) _ [b0, b1, b2, b3, b4, b5] rfl (rb.below (drewB hB) rb.lt) rfl rfl)),
      Or.inr (fun W hB => known_val rfl (by exact exec_same_mac (.tmp 107) (.tmp 108) [b0, b1, b2, b3, b4, b5] rfl rfl rfl rfl)),
      Or.inr (fun W hB => known_val rfl (by go_simp)),
      Or.inr (fun W hB => known_val rfl (by go_simp)),
      Or.inr (fun W hB => known_val rfl (by go_simp)),
      Or.inr (fun W hB => known_val rfl (by go_simp)),
      Or.inr (fun W hB => known_val rfl (by go_simp)),
      Or.inr (fun W hB => known_val rfl (by go_simp)),
      Or.inr (fun W hB => known_val rfl (by go_simp)),
      Or.inr (fun W hB => known_val rfl (by go_simp)),
      Or.inr (fun W hB => known_val rfl (by exact load_ip (.tmp 19) _ [c0, c1, c2, c3] rfl (ri.below (drewB hB) ri.lt) rfl rfl)),
      Or.inr (fun W hB => known_val rfl (by exact load_ip (.tmp 15) _ [c0, c1, c2, c3] rfl (rc.below (drewB hB) rc.lt) rfl rfl)),
      Or.inr (fun W hB => known_val rfl (by exact exec_same_ip (.tmp 118) (.tmp 119) [c0, c1, c2, c3] rfl rfl rfl rfl)),
      Or.inr (fun W hB => known_val rfl (by go_simp)),
      Or.inr (fun W hB => known_val rfl (by go_simp)),
      Or.inr (fun W hB => known_val rfl (by go_simp)),
      Or.inr (fun W hB => known_val rfl (by go_simp)),
      Or.inr (fun W hB => known_val rfl (by go_simp)),
      Or.inr (fun W hB => known_val rfl (by go_simp)),
      Or.inr (fun W hB => known_val rfl (by go_simp)),
      Or.inr (fun W hB => known_val rfl (by go_simp)),
      Or.inr (fun W hB => known_val rfl (by exact load_mac (.tmp 6) _ [m0, m1, m2, m3, m4, m5] rfl (rm.below (drewB hB) rm.lt) rfl rfl)),
      Or.inr (fun W hB => known_call 12 #[.agg (bs [m0, m1, m2, m3, m4, m5])] (hM1.out W) rfl (by go_simp)),
      Or.inr (fun W hB => known_val rfl (by exact load_mac (.tmp 6) _ [m0, m1, m2, m3, m4, m5] rfl (rm.below (drewB hB) rm.lt) rfl rfl)),
      Or.inr (fun W hB => known_call 19 #[.agg (bs [m0, m1, m2, m3, m4, m5])] (hM2.out W) rfl (by go_simp)),
      Or.inr (fun W hB => known_val rfl (by go_simp)),
      Or.inr (fun W hB => known_val rfl (by go_simp)),
      Or.inr (fun W hB => known_val rfl (by go_simp)),
      Or.inr (fun W hB => known_val rfl (by exact load_ip (.tmp 7) _ [a0, a1, a2, a3] rfl (ra.below (drewB hB) ra.lt) rfl rfl)),
      Or.inr (fun W hB => known_call 14 #[.agg (bs [a0, a1, a2, a3])] (hI1.out W (hT.below (B.trans ((drewB hB).mono B.size)))) rfl (by go_simp)),
      Or.inr (fun W hB => known_val rfl (by exact load_ip (.tmp 7) _ [a0, a1, a2, a3] rfl (ra.below (drewB hB) ra.lt) rfl rfl)),
      Or.inr (fun W hB => known_call 20 #[.agg (bs [a0, a1, a2, a3])] (hI2.out W) rfl (by go_simp)),
      Or.inr (fun W hB => known_val rfl (by go_simp)),
      Or.inr (fun W hB => known_val rfl (by go_simp)),
      Or.inr (fun W hB => known_val rfl (by go_simp)),
      Or.inr (fun W hB => known_val rfl (by go_simp)),
      Or.inr (fun W hB => known_call 21 #[.string s] (hS1.out W) rfl (by go_simp)),
      Or.inr (fun W hB => known_val rfl (by go_simp)),
      Or.inr (fun W hB => known_call 22 #[.string s] (hS2.out W) rfl (by go_simp)),
      Or.inr (fun W hB => known_val rfl (by go_simp)),
      Or.inr (fun W hB => known_val rfl (by go_simp)),
      Or.inr (fun W hB => known_val rfl (by go_simp)),
      Or.inr (fun W hB => known_val rfl (by exact load_mac (.tmp 6) _ [m0, m1, m2, m3, m4, m5] rfl (rm.below (drewB hB) rm.lt) rfl rfl)),
      Or.inr (fun W hB => known_call 23 #[.agg (bs [m0, m1, m2, m3, m4, m5])] (hGR.out W) rfl (by go_simp)),
      Or.inr (fun W hB => known_val rfl (by go_simp)),
      Or.inr (fun W hB => known_val rfl (by (have hcc := (rm.below (drewB hB) rm.lt).byte 0 (by show 0 < 6; omega); go_simp))),
      Or.inr (fun W hB => known_val rfl (by go_simp)),
      Or.inr (fun W hB => known_val rfl (by go_simp)),
      Or.inr (fun W hB => known_val rfl (by go_simp)),
      Or.inr (fun W hB => known_val rfl (by go_simp)),
      Or.inr (fun W hB => known_val rfl (by go_simp)), trivial⟩
  intro G W hB hM
  replace B := B.trans ((drewB hB).mono B.size)
  clear hM hB G
  refine wpAny_end (by kernel_rfl) ?_ _
  refine NoPanic.normal ?_
  go_wp2
  go_ret
  exact ⟨rfl, B⟩
end Go.Proofs.YtbeeebnocliaiaaDoor

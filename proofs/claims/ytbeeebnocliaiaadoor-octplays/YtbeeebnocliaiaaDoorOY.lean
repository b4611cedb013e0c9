/- Arrays of six and of four bytes in laws; the law OctTexts: walked. -/
import Derived.Test.YtbeeebnocliaiaaDoorOW
import Derived.Test.YtbeeebnocliaiaaDoorHM
import Derived.Test.YtbeeebnocliaiaaDoorJ
namespace Go.Proofs.YtbeeebnocliaiaaDoor
open Go.RowKit
set_option maxRecDepth 20000 in
theorem macInfo (l : List UInt8) (h : l.length = 6) : (Tryd.prog.info? 24).map (·.size) = some (bs l).size := by
  rw [bs_size, h]; exact (by kernel_rfl : (Tryd.prog.info? 24).map (·.size) = some 6)
set_option maxRecDepth 20000 in
theorem ipInfo (l : List UInt8) (h : l.length = 4) : (Tryd.prog.info? 25).map (·.size) = some (bs l).size := by
  rw [bs_size, h]; exact (by kernel_rfl : (Tryd.prog.info? 25).map (·.size) = some 4)
section
variable {o : Oper} {ev : Operand → Value} {w : World}
theorem load_mac (x : Operand) (g : Nat) (l : List UInt8) (hl : l.length = 6) (h : Has w g 24 (bs l)) (ho : o.op = .load 24 x) (he : ev x = .pointer (some ⟨g, 0, none⟩)) : (execOp ev o).run Tryd.prog w = .ok (.value (.agg (bs l))) w :=
  exec_load_row (P := Tryd.prog) 24 x g h Tryd.underlying24 rfl (macInfo l hl) ho he
theorem load_ip (x : Operand) (g : Nat) (l : List UInt8) (hl : l.length = 4) (h : Has w g 25 (bs l)) (ho : o.op = .load 25 x) (he : ev x = .pointer (some ⟨g, 0, none⟩)) : (execOp ev o).run Tryd.prog w = .ok (.value (.agg (bs l))) w :=
  exec_load_row (P := Tryd.prog) 25 x g h Tryd.underlying25 rfl (ipInfo l hl) ho he
end
theorem eq_mac (la lb : List UInt8) (ha : la.length = 6) (hb : lb.length = 6) (w : World) : (Op.equalIn 10000 24 (.agg (bs la)) (.agg (bs lb))).run Tryd.prog w = .ok (la == lb) w :=
  eq_bytes (P := Tryd.prog) w 24 5 6 Tryd.underlying24 Tryd.underlying5 (by kernel_rfl) la lb ha hb
theorem eq_ip (la lb : List UInt8) (ha : la.length = 4) (hb : lb.length = 4) (w : World) : (Op.equalIn 10000 25 (.agg (bs la)) (.agg (bs lb))).run Tryd.prog w = .ok (la == lb) w :=
  eq_bytes (P := Tryd.prog) w 25 5 4 Tryd.underlying25 Tryd.underlying5 (by kernel_rfl) la lb ha hb
theorem six (l : List UInt8) (h : l.length = 6) : ∃ a b c d e f, l = [a, b, c, d, e, f] := by
  match l, h with
  | [a, b, c, d, e, f], _ => exact ⟨a, b, c, d, e, f, rfl⟩
theorem four (l : List UInt8) (h : l.length = 4) : ∃ a b c d, l = [a, b, c, d] := by
  match l, h with
  | [a, b, c, d], _ => exact ⟨a, b, c, d, rfl⟩
theorem macL_length (l : List UInt8) (h : l.length = 6) : (macL l).length = 17 := by
  obtain ⟨a, b, c, d, e, f, rfl⟩ := six l h
  rfl
theorem ipL_length (l : List UInt8) (h : l.length = 4) : 7 ≤ (ipL l).length ∧ (ipL l).length ≤ 15 := by
  obtain ⟨a, b, c, d, rfl⟩ := four l h
  have h1 := decL_length a
  have h2 := decL_length b
  have h3 := decL_length c
  have h4 := decL_length d
  have e : ipL [a, b, c, d] = decL a ++ ([46] ++ (decL b ++ ([46] ++ (decL c ++ ([46] ++ decL d))))) := by
    unfold ipL
    rw [List.map_cons, List.map_cons, List.map_cons, List.map_cons, List.map_nil, join_two, join_two, join_two, Lib.join_one]
  rw [e]
  simp only [List.length_append, List.length_singleton]
  omega
theorem macL_beq (a b : List UInt8) (ha : a.length = 6) (hb : b.length = 6) : (macL a == macL b) = (a == b) := by
  by_cases h : a = b
  · rw [h]; simp
  · rw [beq_false_of_ne h, beq_false_of_ne (fun e => h (macL_inj ha hb e))]
theorem ipL_beq (a b : List UInt8) (ha : a.length = 4) (hb : b.length = 4) : (ipL a == ipL b) = (a == b) := by
  by_cases h : a = b
  · rw [h]; simp
  · rw [beq_false_of_ne h, beq_false_of_ne (fun e => h (ipL_inj ha hb e))]
set_option maxRecDepth 20000 in
set_option maxHeartbeats 2000000 in
theorem textsLaw_any (m : List UInt8) (hm : m.length = 6) (n : List UInt8) (hn : n.length = 6) (a : List UInt8) (ha : a.length = 4) (b : List UInt8) (hb : b.length = 4) (w : World) (hT : HasT w) :
    Calls Tryd.prog 6 #[.agg (bs m), .agg (bs n), .agg (bs a), .agg (bs b)] w fun e w' => e = .returned (.bool true) ∧ Below w.heap.size w w' := by
  have M : Mem w [(w.heap.size, 24, bs m), (w.heap.size + 1, 24, bs n), (w.heap.size + 1 + 1, 25, bs a), (w.heap.size + 1 + 1 + 1, 25, bs b)] ((((w.alloc (.cells (bs m) 24)).alloc (.cells (bs n) 24)).alloc (.cells (bs a) 25)).alloc (.cells (bs b) 25)) :=
    ((((Mem.init w).alloc _ rfl _ _).alloc _ (by simp) _ _).alloc _ (by simp) _ _).alloc _ (by simp) _ _
  have pm := macText_any m hm
  have pn := macText_any n hn
  have pa := fun W hW => ipText_any a ha W hW
  have pb := fun W hW => ipText_any b hb W hW
  have l1 := macL_length m hm
  have l2 := ipL_length a ha
  have q1 := macL_beq m n hm hn
  have q2 := ipL_beq a b ha hb
  have e1 := eq_mac m n hm hn
  have e2 := eq_ip a b ha hb
  generalize (m == n) = p at q1 e1
  generalize (a == b) = q at q2 e2
  generalize macL m = S at pm l1 q1
  generalize macL n = S2 at pn q1
  generalize ipL a = X at pa l2 q2
  generalize ipL b = X2 at pb q2
  have Pm := Lib.hid pm
  have Pn := Lib.hid pn
  have Pa := Lib.hid pa
  have Pb := Lib.hid pb
  have Hm := Lib.hid hm
  have Hn := Lib.hid hn
  have Ha := Lib.hid ha
  have Hb := Lib.hid hb
  have L2 := Lib.hid l2
  have sm : (bs m).size = 6 := by rw [bs_size, hm]
  have sn : (bs n).size = 6 := by rw [bs_size, hn]
  have sa : (bs a).size = 4 := by rw [bs_size, ha]
  have sb : (bs b).size = 4 := by rw [bs_size, hb]
  clear pm pn pa pb hm hn ha hb l2
  go_enter Tryd.func6, Tryd.ntmps6
  go_upto_region 1 with fail
  change Code.wp _ _ _ _ ((((w.alloc (.cells (bs m) 24)).alloc (.cells (bs n) 24)).alloc (.cells (bs a) 25)).alloc (.cells (bs b) 25))
  generalize (((w.alloc (.cells (bs m) 24)).alloc (.cells (bs n) 24)).alloc (.cells (bs a) 25)).alloc (.cells (bs b) 25) = w0 at M ⊢
  refine wp_region_noPanic ?_
  refine wp_region_flow (fin := ?fin1) 6 0 (by kernel_rfl) [.inl (.agg (bs m)),
    .inl (S9 S),
    .inl (.agg (bs n)),
    .inl (S9 S2),
    .inl (S9 S),
    .inl (S9 S2)] rfl rfl (by kernel_rfl) ?hfin1 ?hE1 ?hend1
  case hfin1 =>
    intro G
    simp only [flowAll, flowVal, Act.put, List.setIfInBounds_toArray, List.set_cons_zero, List.set_cons_succ]
    exact rfl
  case hE1 =>
    intro G
    refine ⟨Or.inr (fun W hB => known_val rfl (by exact load_mac (.tmp 4) _ m Hm.out ((M.drew.step hB).row 0 rfl) rfl rfl)),
      Or.inr (fun W hB => known_call 12 #[.agg (bs m)] (Pm.out W) rfl (by go_simp)),
      Or.inr (fun W hB => known_val rfl (by exact load_mac (.tmp 5) _ n Hn.out ((M.drew.step hB).row 1 rfl) rfl rfl)),
      Or.inr (fun W hB => known_call 12 #[.agg (bs n)] (Pn.out W) rfl (by go_simp)),
      Or.inr (fun W hB => known_val rfl (by go_simp)),
      Or.inr (fun W hB => known_val rfl (by go_simp)), trivial⟩
  intro G W hB hM
  replace M := M.drew.step hB
  clear hM hB G
  refine wpAny_end (by kernel_rfl) ?_ _
  refine NoPanic.normal ?_
  go_upto_region 2 with fail
  refine wp_region_noPanic ?_
  refine wp_region_flow (fin := ?fin2) 6 0 (by kernel_rfl) [.inl (.agg (bs a)),
    .inl (S9 X),
    .inl (.agg (bs b)),
    .inl (S9 X2),
    .inl (S9 X),
    .inl (S9 X2)] rfl rfl (by kernel_rfl) ?hfin2 ?hE2 ?hend2
  case hfin2 =>
    intro G
    simp only [flowAll, flowVal, Act.put, List.setIfInBounds_toArray, List.set_cons_zero, List.set_cons_succ]
    exact rfl
  case hE2 =>
    intro G
    refine ⟨Or.inr (fun W hB => known_val rfl (by exact load_ip (.tmp 6) _ a Ha.out ((M.drew.step hB).row 2 rfl) rfl rfl)),
      Or.inr (fun W hB => known_call 14 #[.agg (bs a)] (Pa.out W (hT.below (M.drew.step hB).below)) rfl (by go_simp)),
      Or.inr (fun W hB => known_val rfl (by exact load_ip (.tmp 7) _ b Hb.out ((M.drew.step hB).row 3 rfl) rfl rfl)),
      Or.inr (fun W hB => known_call 14 #[.agg (bs b)] (Pb.out W (hT.below (M.drew.step hB).below)) rfl (by go_simp)),
      Or.inr (fun W hB => known_val rfl (by go_simp)),
      Or.inr (fun W hB => known_val rfl (by go_simp)), trivial⟩
  intro G W2 hB hM
  replace M := M.drew.step hB
  clear hM hB G
  refine wpAny_end (by kernel_rfl) ?_ _
  refine NoPanic.normal ?_
  have hm := Hm.out
  have hn := Hn.out
  have ha := Ha.out
  have hb := Hb.out
  obtain ⟨m0, m1, m2, m3, m4, m5, rfl⟩ := six m hm
  obtain ⟨n0, n1, n2, n3, n4, n5, rfl⟩ := six n hn
  obtain ⟨a0, a1, a2, a3, rfl⟩ := four a ha
  obtain ⟨b0, b1, b2, b3, rfl⟩ := four b hb
  have e1 : ∀ w, (Op.equalIn 10000 24 (.agg #[B8 m0, B8 m1, B8 m2, B8 m3, B8 m4, B8 m5]) (.agg #[B8 n0, B8 n1, B8 n2, B8 n3, B8 n4, B8 n5])).run Tryd.prog w = .ok p w := e1
  have e2 : ∀ w, (Op.equalIn 10000 25 (.agg #[B8 a0, B8 a1, B8 a2, B8 a3]) (.agg #[B8 b0, B8 b1, B8 b2, B8 b3])).run Tryd.prog w = .ok q w := e2
  clear hm hn ha hb
  go_wp2_with fail
  refine (awake_any _).mono ?_
  rintro e W3 ⟨rfl, hb3⟩
  replace M := M.step hb3
  have cm0 := (M.row 0 rfl).byte 0 (by show 0 < 6; omega)
  have cm1 := (M.row 0 rfl).byte 1 (by show 1 < 6; omega)
  have cm2 := (M.row 0 rfl).byte 2 (by show 2 < 6; omega)
  have cm3 := (M.row 0 rfl).byte 3 (by show 3 < 6; omega)
  have cm4 := (M.row 0 rfl).byte 4 (by show 4 < 6; omega)
  have cm5 := (M.row 0 rfl).byte 5 (by show 5 < 6; omega)
  have cn0 := (M.row 1 rfl).byte 0 (by show 0 < 6; omega)
  have cn1 := (M.row 1 rfl).byte 1 (by show 1 < 6; omega)
  have cn2 := (M.row 1 rfl).byte 2 (by show 2 < 6; omega)
  have cn3 := (M.row 1 rfl).byte 3 (by show 3 < 6; omega)
  have cn4 := (M.row 1 rfl).byte 4 (by show 4 < 6; omega)
  have cn5 := (M.row 1 rfl).byte 5 (by show 5 < 6; omega)
  have ca0 := (M.row 2 rfl).byte 0 (by show 0 < 4; omega)
  have ca1 := (M.row 2 rfl).byte 1 (by show 1 < 4; omega)
  have ca2 := (M.row 2 rfl).byte 2 (by show 2 < 4; omega)
  have ca3 := (M.row 2 rfl).byte 3 (by show 3 < 4; omega)
  have cb0 := (M.row 3 rfl).byte 0 (by show 0 < 4; omega)
  have cb1 := (M.row 3 rfl).byte 1 (by show 1 < 4; omega)
  have cb2 := (M.row 3 rfl).byte 2 (by show 2 < 4; omega)
  have cb3 := (M.row 3 rfl).byte 3 (by show 3 < 4; omega)
  have t7 := L2.out.1
  have t15 := L2.out.2
  have hl1 : (7 : Int) ≤ (X.length : Int) := by omega
  have hl2 : (X.length : Int) ≤ 15 := by omega
  have hl3 : (S.length : Int) = 17 := by omega
  have HM := Lib.hid M.below
  clear M t7 t15 l1
  go_wp2
  go_ret
  refine ⟨?_, HM.out⟩
  first | rfl | (cases p <;> cases q <;> rfl)
end Go.Proofs.YtbeeebnocliaiaaDoor

/- tun's right, readPiece: walked. -/
import Derived.Test.YthpbhimmfmablaaTUQ
import Derived.Test.YthpbhimmfmablaaTUC
import Derived.Test.YthpbhimmfmablaaHM
import Derived.Test.YthpbhimmfmablaaLS
namespace Go.Proofs.Ythpbhimmfmablaa
open Go.RowKit
/-- may a piece be so? -/
def rightB (c p z : Nat) : Bool := decide (c ≤ 3) && (decide (p < c) && (decide (z = 512) || (decide (p + 1 = c) && decide (z < 512))))
set_option maxRecDepth 20000 in
set_option maxHeartbeats 1000000 in
theorem right12_any (n c p : Nat) (b : ByteArray) (hc : c < 256) (hp : p < 256) (w : World) : Calls Try.prog 33 #[.agg (pv n c p b)] w fun e w' => e = .returned (.bool (rightB c p b.size)) ∧ Below w.heap.size w w' := by
  have hB : Below w.heap.size w (w.alloc (.cells (pv n c p b) 66)) := (Below.refl _ _).alloc (Nat.le_refl _) _
  have fin : ∀ q : Bool, rightB c p b.size = q → Ending.returned (.bool q) = .returned (.bool (rightB c p b.size)) := fun q h => by rw [h]
  have HF := Lib.hid fin
  clear fin
  by_cases h1 : 3 < c
  · have t1 : (3 : Int) < (c : Int) := by omega
    go_enter Try.func33, Try.ntmps33
    go_wp2
    go_ret
    exact ⟨HF.out _ (by unfold rightB; simp; omega), hB⟩
  have t1 : ¬ (3 : Int) < (c : Int) := by omega
  by_cases h2 : c ≤ p
  · have t2 : (c : Int) ≤ (p : Int) := by omega
    go_enter Try.func33, Try.ntmps33
    go_wp2
    go_ret
    exact ⟨HF.out _ (by unfold rightB; simp; omega), hB⟩
  have t2 : ¬ (c : Int) ≤ (p : Int) := by omega
  have t3 : (c : Int) ≤ 255 := by omega
  by_cases h3 : b.size = 512
  · have t4 : ((b.size : Int) == 512) = true := by rw [beq_iff_eq]; omega
    have H3 := Lib.hid h3
    clear h3
    go_enter Try.func33, Try.ntmps33
    go_wp2
    go_ret
    exact ⟨HF.out _ (by unfold rightB; rw [H3.out]; simp; omega), hB⟩
  have t4 : ((b.size : Int) == 512) = false := by rw [beq_eq_false_iff_ne]; omega
  by_cases h4 : p + 1 = c
  · have t5 : ((p : Int) == (c : Int) - 1) = true := by rw [beq_iff_eq]; omega
    by_cases h5 : b.size < 512
    · have t6 : (b.size : Int) < 512 := by omega
      go_enter Try.func33, Try.ntmps33
      go_wp2
      go_ret
      exact ⟨HF.out _ (by unfold rightB; simp; omega), hB⟩
    · have t6 : ¬ (b.size : Int) < 512 := by omega
      go_enter Try.func33, Try.ntmps33
      go_wp2
      go_ret
      exact ⟨HF.out _ (by unfold rightB; simp; omega), hB⟩
  · have t5 : ((p : Int) == (c : Int) - 1) = false := by rw [beq_eq_false_iff_ne]; omega
    go_enter Try.func33, Try.ntmps33
    go_wp2
    go_ret
    exact ⟨HF.out _ (by unfold rightB; simp; omega), hB⟩
abbrev pz : Array Value := pv 0 0 0 ⟨#[]⟩
theorem piece_size {n c p : Nat} {b : ByteArray} : (Try.prog.info? 66).map (·.size) = some (pv n c p b).size := by kernel_rfl
theorem piece_one (n c p : Nat) (b : ByteArray) : (pv n c p b).all (·.oneCell') = true := by simp [Value.oneCell']
theorem alloc_piece {o : Oper} {ev : Operand → Value} {w : World} (ho : o.op = .alloc 66) : (execOp ev o).run Try.prog w = .ok (.value (.pointer (some ⟨w.heap.size, 0, none⟩))) (w.alloc (.cells pz 66)) := by
  unfold execOp
  simp only [ho]
  go_simp
  rfl
theorem exec_neqB1 {P : Program} {o : Oper} {ev : Operand → Value} {w : World} (p q : Operand) (a b : ByteArray) (r : Bool) (hr : (a.data.toList == b.data.toList) = r) (ho : o.op = .binOp .neq 9 p q 9) (hp : ev p = .string a) (hq : ev q = .string b) : (execOp ev o).run P w = .ok (.value (.bool (!r))) w := by
  rw [← ByteArray.toList_eq, ← ByteArray.toList_eq] at hr
  unfold execOp
  simp only [ho, hp, hq]
  go_simp
/-- a piece that is read: the error; its number, place, count, body -/
def readP (s : ByteArray) : Int × (Nat × Nat × Nat × ByteArray) :=
  if s.size < 1 then (2, (0, 0, 0, ⟨#[]⟩))
  else if bAt s 0 ≠ 1 then (3, (0, 0, 0, ⟨#[]⟩))
  else if s.size ≤ 7 then (2, (0, 0, 0, ⟨#[]⟩))
  else if rightB (bAt s 6).toNat (bAt s 5).toNat (s.size - 7) then (0, (numP (s.data.toList.drop 1) 4, (bAt s 5).toNat, (bAt s 6).toNat, s.extract 7 s.size))
  else (3, (0, 0, 0, ⟨#[]⟩))
abbrev pcs (x : Nat × Nat × Nat × ByteArray) : Array Value := pv x.1 x.2.2.1 x.2.1 x.2.2.2
theorem bAt_cons' (s : ByteArray) (h : 1 ≤ s.size) : s.data.toList = bAt s 0 :: s.data.toList.drop 1 := by
  have hl : s.data.toList.length = s.size := len_list s
  unfold bAt
  cases hs : s.data.toList with
  | nil => rw [hs] at hl; simp at hl; omega
  | cons x r => rfl
theorem first_byte (s : ByteArray) (h : 1 ≤ s.size) : (s.extract 0 1).data.toList = [bAt s 0] := by
  rw [extract_list, List.drop_zero]
  show s.data.toList.take 1 = _
  conv => lhs; rw [bAt_cons' s h]
  rfl
set_option maxRecDepth 20000 in
set_option maxHeartbeats 1000000 in
theorem readP_none (s : ByteArray) (h : s.size < 1) (w : World) : Calls Try.prog 25 #[.string s] w fun e w' => e = .returned (.tuple #[.agg pz, .int .i64 2]) ∧ Below w.heap.size w w' := by
  have M : Mem w [(w.heap.size, 66, pz)] (w.alloc (.cells pz 66)) := (Mem.init w).alloc _ rfl _ _
  have hz : s = ⟨#[]⟩ := by
    apply ByteArray.ext
    have : s.data.size = 0 := by show s.size = 0; omega
    exact Array.eq_empty_of_size_eq_zero this
  subst hz
  go_enter Try.func25, Try.ntmps25
  go_wp2
  exact bodyPost_ret (v := .tuple #[.agg pz, .int .i64 2]) (results_row1 rfl _ _ w.heap.size 66 pz (0, 0) _ rfl (M.row 0 rfl) Try.underlying66 rfl piece_size _ rfl) rfl ⟨rfl, M.below⟩
set_option maxRecDepth 20000 in
set_option maxHeartbeats 1000000 in
theorem readP_first (s : ByteArray) (h : 1 ≤ s.size) (h1 : bAt s 0 ≠ 1) (w : World) : Calls Try.prog 25 #[.string s] w fun e w' => e = .returned (.tuple #[.agg pz, .int .i64 3]) ∧ Below w.heap.size w w' := by
  have M : Mem w [(w.heap.size, 66, pz)] (w.alloc (.cells pz 66)) := (Mem.init w).alloc _ rfl _ _
  have he : (s.data.toList == (⟨#[]⟩ : ByteArray).data.toList) = false := by
    have hl : s.data.toList.length = s.size := len_list s
    cases hs : s.data.toList with
    | nil => rw [hs] at hl; simp at hl; omega
    | cons x r => rfl
  have h2 : ((s.extract 0 1).data.toList == (⟨#[1]⟩ : ByteArray).data.toList) = false := by
    rw [first_byte s h, beq_eq_false_iff_ne]
    intro e
    injection e with e
    exact h1 e
  have t1 : (1 : Int) ≤ (s.size : Int) := by omega
  have HE := Lib.hid he
  have H2 := Lib.hid h2
  clear he h2 h1
  go_enter Try.func25, Try.ntmps25
  go_wp2_with (first
    | (refine wpExec rfl (.bool false) (exec_eqS (.tmp 5) (.const (.string ⟨#[]⟩)) _ _ false HE.out rfl rfl rfl) ?_)
    | (refine wpExec rfl (.bool (!false)) (exec_neqB1 (.tmp 9) (.const (.string ⟨#[1]⟩)) _ _ false H2.out rfl rfl rfl) ?_))
  exact bodyPost_ret (v := .tuple #[.agg pz, .int .i64 3]) (results_row1 rfl _ _ w.heap.size 66 pz (0, 0) _ rfl (M.row 0 rfl) Try.underlying66 rfl piece_size _ rfl) rfl ⟨rfl, M.below⟩
set_option maxRecDepth 20000 in
set_option maxHeartbeats 1000000 in
theorem readP_short (s : ByteArray) (h : 1 ≤ s.size) (h1 : bAt s 0 = 1) (h7 : s.size ≤ 7) (w : World) : Calls Try.prog 25 #[.string s] w fun e w' => e = .returned (.tuple #[.agg pz, .int .i64 2]) ∧ Below w.heap.size w w' := by
  have M : Mem w [(w.heap.size, 66, pz)] (w.alloc (.cells pz 66)) := (Mem.init w).alloc _ rfl _ _
  have he : (s.data.toList == (⟨#[]⟩ : ByteArray).data.toList) = false := by
    have hl : s.data.toList.length = s.size := len_list s
    cases hs : s.data.toList with
    | nil => rw [hs] at hl; simp at hl; omega
    | cons x r => rfl
  have h2 : ((s.extract 0 1).data.toList == (⟨#[1]⟩ : ByteArray).data.toList) = true := by rw [first_byte s h, h1]; rfl
  have t1 : (1 : Int) ≤ (s.size : Int) := by omega
  have t7 : (s.size : Int) ≤ 7 := by omega
  have HE := Lib.hid he
  have H2 := Lib.hid h2
  clear he h2 h1
  go_enter Try.func25, Try.ntmps25
  go_wp2_with (first
    | (refine wpExec rfl (.bool false) (exec_eqS (.tmp 5) (.const (.string ⟨#[]⟩)) _ _ false HE.out rfl rfl rfl) ?_)
    | (refine wpExec rfl (.bool (!true)) (exec_neqB1 (.tmp 9) (.const (.string ⟨#[1]⟩)) _ _ true H2.out rfl rfl rfl) ?_))
  exact bodyPost_ret (v := .tuple #[.agg pz, .int .i64 2]) (results_row1 rfl _ _ w.heap.size 66 pz (0, 0) _ rfl (M.row 0 rfl) Try.underlying66 rfl piece_size _ rfl) rfl ⟨rfl, M.below⟩
set_option maxRecDepth 20000 in
set_option maxHeartbeats 1000000 in
theorem readP_yes (s : ByteArray) (h1 : bAt s 0 = 1) (h7 : 7 < s.size) (hq : rightB (bAt s 6).toNat (bAt s 5).toNat (s.size - 7) = true) (w : World) : Calls Try.prog 25 #[.string s] w fun e w' => e = .returned (.tuple #[.agg (pv (numP (s.data.toList.drop 1) 4) (bAt s 6).toNat (bAt s 5).toNat (s.extract 7 s.size)), .int .i64 0]) ∧ Below w.heap.size w w' := by
  have M : Mem w [(w.heap.size, 66, pz)] (w.alloc (.cells pz 66)) := (Mem.init w).alloc _ rfl _ _
  have he : (s.data.toList == (⟨#[]⟩ : ByteArray).data.toList) = false := by
    have hl : s.data.toList.length = s.size := len_list s
    cases hs : s.data.toList with
    | nil => rw [hs] at hl; simp at hl; omega
    | cons x r => rfl
  have h2 : ((s.extract 0 1).data.toList == (⟨#[1]⟩ : ByteArray).data.toList) = true := by rw [first_byte s (by omega), h1]; rfl
  have t1 : (1 : Int) ≤ (s.size : Int) := by omega
  have t7 : ¬ (s.size : Int) ≤ 7 := by omega
  have t8 : (7 : Int) ≤ (s.size : Int) := by omega
  have hI5 := fun (o : Oper) (ev : Operand → Value) (W : World) (p r : Operand) => exec_index (o := o) (ev := ev) (w := W) p r s 5 (by omega)
  have hI6 := fun (o : Oper) (ev : Operand → Value) (W : World) (p r : Operand) => exec_index (o := o) (ev := ev) (w := W) p r s 6 (by omega)
  have hrw := fun W => readWord_any (s.extract 1 s.size) (by rw [ByteArray.size_extract]; omega) W
  rw [ext_mid] at hrw
  have l5 := UInt8.toNat_lt (bAt s 5)
  have l6 := UInt8.toNat_lt (bAt s 6)
  have hrt := fun W => right12_any (numP (s.data.toList.drop 1) 4) (bAt s 6).toNat (bAt s 5).toNat (s.extract 7 s.size) (by omega) (by omega) W
  have hz7 : (s.extract 7 s.size).size = s.size - 7 := by rw [ByteArray.size_extract]; omega
  rw [hz7, hq] at hrt
  generalize numP (s.data.toList.drop 1) 4 = N at *
  generalize (bAt s 5).toNat = p at *
  generalize (bAt s 6).toNat = c at *
  obtain ⟨X, hX⟩ : ∃ X, s.extract 7 s.size = X := ⟨_, rfl⟩
  have HE := Lib.hid he
  have H2 := Lib.hid h2
  have HI5 := Lib.hid hI5
  have HI6 := Lib.hid hI6
  have HRW := Lib.hid hrw
  have HRT := Lib.hid hrt
  clear he h2 h1 hI5 hI6 hrw hrt hq hz7
  go_enter Try.func25, Try.ntmps25
  go_upto_region 7 with (first
    | (refine wpExec rfl (.bool false) (exec_eqS (.tmp 5) (.const (.string ⟨#[]⟩)) _ _ false HE.out rfl rfl rfl) ?_)
    | (refine wpExec rfl (.bool (!true)) (exec_neqB1 (.tmp 9) (.const (.string ⟨#[1]⟩)) _ _ true H2.out rfl rfl rfl) ?_)
    | fail)
  change Code.wp _ _ _ _ (w.alloc (.cells pz 66))
  generalize w.alloc (.cells pz 66) = W0 at M ⊢
  rw [hX] at HRT
  refine wp_region_noPanic ?_
  refine wp_region_flow (fin := ?fin1) 13 1 (by kernel_rfl) [.inl (.string s),
    .inl (.string (s.extract 1 s.size)),
    .inl (.int .u64 (N : Int)),
    .inl (.string s),
    .inl (.int .u8 (p : Int)),
    .inl (.int .i64 (p : Int)),
    .inl (.string s),
    .inl (.int .u8 (c : Int)),
    .inl (.int .i64 (c : Int)),
    .inl (.string s),
    .inl (.string X),
    .inl (.agg (pv N c p X)),
    .inr (66, pz, none)] rfl rfl (by kernel_rfl) ?hfin1 ?hE1 ?hend1
  case hfin1 =>
    intro G
    simp only [flowAll, flowVal, Act.put, List.setIfInBounds_toArray, List.set_cons_zero, List.set_cons_succ]
    exact rfl
  case hE1 =>
    intro G
    refine ⟨Or.inr (fun W hB hR => known_val rfl (by go_simp)),
      Or.inr (fun W hB hR => known_val rfl (by go_simp)),
      Or.inr (fun W hB hR => known_call 32 #[.string (s.extract 1 s.size)] ((HRW.out _).mono (by rintro e w' ⟨rfl, rfl⟩; exact ⟨rfl, Below.refl _ _⟩)) rfl (by go_simp)),
      Or.inr (fun W hB hR => known_val rfl (by go_simp)),
      Or.inr (fun W hB hR => known_val rfl (by exact HI5.out _ _ _ _ _ rfl rfl rfl)),
      Or.inr (fun W hB hR => known_val rfl (by have hw : IntKind.i64.wrap (p : Int) = (p : Int) := IntWalk.i64_in _ (by omega); go_simp)),
      Or.inr (fun W hB hR => known_val rfl (by go_simp)),
      Or.inr (fun W hB hR => known_val rfl (by exact HI6.out _ _ _ _ _ rfl rfl rfl)),
      Or.inr (fun W hB hR => known_val rfl (by have hw : IntKind.i64.wrap (c : Int) = (c : Int) := IntWalk.i64_in _ (by omega); go_simp)),
      Or.inr (fun W hB hR => known_val rfl (by go_simp)),
      Or.inr (fun W hB hR => known_val rfl (by go_simp)),
      Or.inr (fun W hB hR => known_val rfl (by go_simp)),
      ⟨rfl, fun W => made_ptr (alloc_piece rfl)⟩, trivial⟩
  intro G W hB hM
  have M1 := M.drew.made hB hM 12 rfl rfl
  simp only [List.cons_append, List.nil_append] at M1
  generalize G 12 = gp at M1 ⊢
  clear hB hM M G
  refine only0 13 (W.setRow gp (pv N c p X)) _ (by kernel_rfl) rfl rfl rfl (exec_store_row (P := Try.prog) 66 (.tmp 4) (.tmp 27) gp (pv N c p X) (M1.row 1 rfl) piece_size rfl (piece_one _ _ _ _) rfl rfl rfl) ?_
  have M := M1.store 1 rfl (pv N c p X)
  simp only [List.set_cons_zero, List.set_cons_succ] at M
  generalize W.setRow gp (pv N c p X) = V at M ⊢
  clear M1
  simp only [Act.put]
  refine wpAny_end (by kernel_rfl) ?_ _
  refine NoPanic.normal ?_
  have r1 := M.row 1 rfl
  have HM := Lib.hid M
  clear M HE H2 HI5 HI6 HRW
  go_wp2_with (first
    | (refine wpExec rfl (.agg (pv N c p X)) (exec_load_row 66 (.tmp 4) gp r1 Try.underlying66 rfl piece_size rfl rfl) ?_)
    | fail)
  refine (HRT.out _).mono ?_
  rintro e w1 ⟨rfl, hb1⟩
  have M := HM.out.step hb1
  clear HM HRT hb1 r1
  have r0 := M.row 0 rfl
  have r1 := M.row 1 rfl
  have HM := Lib.hid (M.store 0 rfl (pv N c p X))
  clear M
  go_wp2_with (first
    | (refine wpExec rfl (.agg (pv N c p X)) (exec_load_row 66 (.tmp 4) gp r1 Try.underlying66 rfl piece_size rfl rfl) ?_)
    | (refine wpList_store_row rfl 66 (.tmp 2) (.tmp 32) rfl w.heap.size (pv N c p X) rfl rfl 66 pz r0 piece_size rfl (piece_one _ _ _ _) ?_))
  exact bodyPost_ret (v := .tuple #[.agg (pv N c p X), .int .i64 0]) (results_row1 rfl _ _ w.heap.size 66 (pv N c p X) (0, 0) _ rfl (HM.out.row 0 rfl) Try.underlying66 rfl piece_size _ rfl) rfl ⟨by rw [hX], HM.out.below⟩
set_option maxRecDepth 20000 in
set_option maxHeartbeats 1000000 in
theorem readP_no (s : ByteArray) (h1 : bAt s 0 = 1) (h7 : 7 < s.size) (hq : rightB (bAt s 6).toNat (bAt s 5).toNat (s.size - 7) = false) (w : World) : Calls Try.prog 25 #[.string s] w fun e w' => e = .returned (.tuple #[.agg pz, .int .i64 3]) ∧ Below w.heap.size w w' := by
  have M : Mem w [(w.heap.size, 66, pz)] (w.alloc (.cells pz 66)) := (Mem.init w).alloc _ rfl _ _
  have he : (s.data.toList == (⟨#[]⟩ : ByteArray).data.toList) = false := by
    have hl : s.data.toList.length = s.size := len_list s
    cases hs : s.data.toList with
    | nil => rw [hs] at hl; simp at hl; omega
    | cons x r => rfl
  have h2 : ((s.extract 0 1).data.toList == (⟨#[1]⟩ : ByteArray).data.toList) = true := by rw [first_byte s (by omega), h1]; rfl
  have t1 : (1 : Int) ≤ (s.size : Int) := by omega
  have t7 : ¬ (s.size : Int) ≤ 7 := by omega
  have t8 : (7 : Int) ≤ (s.size : Int) := by omega
  have hI5 := fun (o : Oper) (ev : Operand → Value) (W : World) (p r : Operand) => exec_index (o := o) (ev := ev) (w := W) p r s 5 (by omega)
  have hI6 := fun (o : Oper) (ev : Operand → Value) (W : World) (p r : Operand) => exec_index (o := o) (ev := ev) (w := W) p r s 6 (by omega)
  have hrw := fun W => readWord_any (s.extract 1 s.size) (by rw [ByteArray.size_extract]; omega) W
  rw [ext_mid] at hrw
  have l5 := UInt8.toNat_lt (bAt s 5)
  have l6 := UInt8.toNat_lt (bAt s 6)
  have hrt := fun W => right12_any (numP (s.data.toList.drop 1) 4) (bAt s 6).toNat (bAt s 5).toNat (s.extract 7 s.size) (by omega) (by omega) W
  have hz7 : (s.extract 7 s.size).size = s.size - 7 := by rw [ByteArray.size_extract]; omega
  rw [hz7, hq] at hrt
  generalize numP (s.data.toList.drop 1) 4 = N at *
  generalize (bAt s 5).toNat = p at *
  generalize (bAt s 6).toNat = c at *
  obtain ⟨X, hX⟩ : ∃ X, s.extract 7 s.size = X := ⟨_, rfl⟩
  have HE := Lib.hid he
  have H2 := Lib.hid h2
  have HI5 := Lib.hid hI5
  have HI6 := Lib.hid hI6
  have HRW := Lib.hid hrw
  have HRT := Lib.hid hrt
  clear he h2 h1 hI5 hI6 hrw hrt hq hz7
  go_enter Try.func25, Try.ntmps25
  go_upto_region 7 with (first
    | (refine wpExec rfl (.bool false) (exec_eqS (.tmp 5) (.const (.string ⟨#[]⟩)) _ _ false HE.out rfl rfl rfl) ?_)
    | (refine wpExec rfl (.bool (!true)) (exec_neqB1 (.tmp 9) (.const (.string ⟨#[1]⟩)) _ _ true H2.out rfl rfl rfl) ?_)
    | fail)
  change Code.wp _ _ _ _ (w.alloc (.cells pz 66))
  generalize w.alloc (.cells pz 66) = W0 at M ⊢
  rw [hX] at HRT
  refine wp_region_noPanic ?_
  refine wp_region_flow (fin := ?fin2) 13 1 (by kernel_rfl) [.inl (.string s),
    .inl (.string (s.extract 1 s.size)),
    .inl (.int .u64 (N : Int)),
    .inl (.string s),
    .inl (.int .u8 (p : Int)),
    .inl (.int .i64 (p : Int)),
    .inl (.string s),
    .inl (.int .u8 (c : Int)),
    .inl (.int .i64 (c : Int)),
    .inl (.string s),
    .inl (.string X),
    .inl (.agg (pv N c p X)),
    .inr (66, pz, none)] rfl rfl (by kernel_rfl) ?hfin2 ?hE2 ?hend2
  case hfin2 =>
    intro G
    simp only [flowAll, flowVal, Act.put, List.setIfInBounds_toArray, List.set_cons_zero, List.set_cons_succ]
    exact rfl
  case hE2 =>
    intro G
    refine ⟨Or.inr (fun W hB hR => known_val rfl (by go_simp)),
      Or.inr (fun W hB hR => known_val rfl (by go_simp)),
      Or.inr (fun W hB hR => known_call 32 #[.string (s.extract 1 s.size)] ((HRW.out _).mono (by rintro e w' ⟨rfl, rfl⟩; exact ⟨rfl, Below.refl _ _⟩)) rfl (by go_simp)),
      Or.inr (fun W hB hR => known_val rfl (by go_simp)),
      Or.inr (fun W hB hR => known_val rfl (by exact HI5.out _ _ _ _ _ rfl rfl rfl)),
      Or.inr (fun W hB hR => known_val rfl (by have hw : IntKind.i64.wrap (p : Int) = (p : Int) := IntWalk.i64_in _ (by omega); go_simp)),
      Or.inr (fun W hB hR => known_val rfl (by go_simp)),
      Or.inr (fun W hB hR => known_val rfl (by exact HI6.out _ _ _ _ _ rfl rfl rfl)),
      Or.inr (fun W hB hR => known_val rfl (by have hw : IntKind.i64.wrap (c : Int) = (c : Int) := IntWalk.i64_in _ (by omega); go_simp)),
      Or.inr (fun W hB hR => known_val rfl (by go_simp)),
      Or.inr (fun W hB hR => known_val rfl (by go_simp)),
      Or.inr (fun W hB hR => known_val rfl (by go_simp)),
      ⟨rfl, fun W => made_ptr (alloc_piece rfl)⟩, trivial⟩
  intro G W hB hM
  have M1 := M.drew.made hB hM 12 rfl rfl
  simp only [List.cons_append, List.nil_append] at M1
  generalize G 12 = gp at M1 ⊢
  clear hB hM M G
  refine only0 13 (W.setRow gp (pv N c p X)) _ (by kernel_rfl) rfl rfl rfl (exec_store_row (P := Try.prog) 66 (.tmp 4) (.tmp 27) gp (pv N c p X) (M1.row 1 rfl) piece_size rfl (piece_one _ _ _ _) rfl rfl rfl) ?_
  have M := M1.store 1 rfl (pv N c p X)
  simp only [List.set_cons_zero, List.set_cons_succ] at M
  generalize W.setRow gp (pv N c p X) = V at M ⊢
  clear M1
  simp only [Act.put]
  refine wpAny_end (by kernel_rfl) ?_ _
  refine NoPanic.normal ?_
  have r1 := M.row 1 rfl
  have HM := Lib.hid M
  clear M HE H2 HI5 HI6 HRW
  go_wp2_with (first
    | (refine wpExec rfl (.agg (pv N c p X)) (exec_load_row 66 (.tmp 4) gp r1 Try.underlying66 rfl piece_size rfl rfl) ?_)
    | fail)
  refine (HRT.out _).mono ?_
  rintro e w1 ⟨rfl, hb1⟩
  have M := HM.out.step hb1
  clear HM HRT hb1 r1
  have r0 := M.row 0 rfl
  have r1 := M.row 1 rfl
  have HM := Lib.hid (M.store 0 rfl pz)
  clear M
  go_wp2_with (first
    | (refine wpExec rfl (.agg (pv N c p X)) (exec_load_row 66 (.tmp 4) gp r1 Try.underlying66 rfl piece_size rfl rfl) ?_)
    | (refine wpList_store_row rfl 66 (.tmp 2) (.tmp 31) rfl w.heap.size pz rfl rfl 66 pz r0 piece_size rfl (piece_one _ _ _ _) ?_))
  exact bodyPost_ret (v := .tuple #[.agg pz, .int .i64 3]) (results_row1 rfl _ _ w.heap.size 66 pz (0, 0) _ rfl (HM.out.row 0 rfl) Try.underlying66 rfl piece_size _ rfl) rfl ⟨rfl, HM.out.below⟩
theorem readP_any (s : ByteArray) (w : World) : Calls Try.prog 25 #[.string s] w fun e w' => e = .returned (.tuple #[.agg (pcs (readP s).2), .int .i64 (readP s).1]) ∧ Below w.heap.size w w' := by
  unfold readP
  by_cases h : s.size < 1
  · rw [if_pos h]
    exact readP_none s h w
  rw [if_neg h]
  by_cases h1 : bAt s 0 ≠ 1
  · rw [if_pos h1]
    exact readP_first s (by omega) h1 w
  rw [if_neg h1]
  have h1' : bAt s 0 = 1 := by simpa using h1
  by_cases h7 : s.size ≤ 7
  · rw [if_pos h7]
    exact readP_short s (by omega) h1' h7 w
  rw [if_neg h7]
  cases hq : rightB (bAt s 6).toNat (bAt s 5).toNat (s.size - 7) with
  | true =>
    rw [if_pos rfl]
    exact readP_yes s h1' (by omega) hq w
  | false =>
    rw [if_neg (by simp)]
    exact readP_no s h1' (by omega) hq w
end Go.Proofs.Ythpbhimmfmablaa

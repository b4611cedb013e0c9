/- tun.Parse: walked. -/
import Derived.Test.YthpbhimmfmablaaTUB
import Derived.Test.YthpbhimmfmablaaVB
import Derived.Test.YthpbhimmfmablaaLS
namespace Go.Proofs.Ythpbhimmfmablaa
open Go.RowKit
/-- what three results read as.. here two, the first of which lies in a row -/
theorem results_row1 {P : Program} {fn : Func} {p u : Tmp} {ty : TypeId} (h : fn.results = #[.cell p ty, .tmp u]) (tmps : Array Value) (w : World) (g : Nat) (t : TypeId) (cs : Array Value) (fr : Nat × Nat) (d : TypeDesc)
    (hp : tmps.getD p undef = .pointer (some ⟨g, 0, none⟩)) (hg : w.heap[g]? = some (.cells cs t fr))
    (hu : P.underlying ty = some d) (hd : (match d with | .struct _ | .array _ _ => true | _ => false) = true) (hi : (P.info? ty).map (·.size) = some cs.size)
    (x : Value) (hx : tmps.getD u undef = x) :
    (results fn tmps).run P w = .ok (.tuple #[.agg cs, x]) w := by
  have hp' : tmps[p]?.getD undef = .pointer (some ⟨g, 0, none⟩) := by simpa using hp
  have hx' : tmps[u]?.getD undef = x := by simpa using hx
  simp [results, h, hp', hx', asAddr, run_loadVar_row w g t ty cs fr d hg hu hd hi]
set_option maxRecDepth 20000 in
set_option maxHeartbeats 1000000 in
theorem parseG_short (k : Int) (s : ByteArray) (h : s.size < 48) (w : World) : Calls Try.prog 23 #[.int .i64 k, .string s] w fun e w' => e = .returned (.tuple #[.agg gz.c, .int .i64 2]) ∧ Below w.heap.size w w' := by
  have M : Mem w [(w.heap.size, 29, gz.c)] (w.alloc (.cells gz.c 29)) := (Mem.init w).alloc _ rfl _ _
  have h1 : (s.size : Int) < 48 := by omega
  go_enter Try.func23, Try.ntmps23
  go_wp2
  exact bodyPost_ret (v := .tuple #[.agg gz.c, .int .i64 2]) (results_row1 rfl _ _ w.heap.size 29 gz.c (0, 0) _ rfl (M.row 0 rfl) Try.underlying29 rfl g12_info _ rfl) rfl ⟨rfl, M.below⟩
set_option maxRecDepth 20000 in
set_option maxHeartbeats 1000000 in
theorem parseG_long (k : Int) (s : ByteArray) (h : 48 < s.size) (w : World) : Calls Try.prog 23 #[.int .i64 k, .string s] w fun e w' => e = .returned (.tuple #[.agg gz.c, .int .i64 3]) ∧ Below w.heap.size w w' := by
  have M : Mem w [(w.heap.size, 29, gz.c)] (w.alloc (.cells gz.c 29)) := (Mem.init w).alloc _ rfl _ _
  have h1 : ¬ (s.size : Int) < 48 := by omega
  have h2 : (48 : Int) < (s.size : Int) := by omega
  go_enter Try.func23, Try.ntmps23
  go_wp2
  exact bodyPost_ret (v := .tuple #[.agg gz.c, .int .i64 3]) (results_row1 rfl _ _ w.heap.size 29 gz.c (0, 0) _ rfl (M.row 0 rfl) Try.underlying29 rfl g12_info _ rfl) rfl ⟨rfl, M.below⟩
set_option maxRecDepth 20000 in
set_option maxHeartbeats 1000000 in
theorem parseG_good (k : Int) (s : ByteArray) (h : s.size = 48) (w : World) : Calls Try.prog 23 #[.int .i64 k, .string s] w fun e w' => e = .returned (.tuple #[.agg (G12.mk k 0 s).c, .int .i64 0]) ∧ Below w.heap.size w w' := by
  have M : Mem w [(w.heap.size, 29, gz.c)] (w.alloc (.cells gz.c 29)) := (Mem.init w).alloc _ rfl _ _
  have h1 : ¬ (s.size : Int) < 48 := by omega
  have h2 : ¬ (48 : Int) < (s.size : Int) := by omega
  have hc := fun W => clone_any s (by omega) W
  have HC := Lib.hid hc
  clear hc h
  go_enter Try.func23, Try.ntmps23
  go_upto_region 5 with fail
  change Code.wp _ _ _ _ (w.alloc (.cells gz.c 29))
  generalize w.alloc (.cells gz.c 29) = W0 at M ⊢
  have hq := HC.out W0
  clear HC
  go_wp2_with fail
  refine hq.mono ?_
  rintro e w1 ⟨rfl, hb1⟩
  replace M := M.step hb1
  have r0 := M.row 0 rfl
  have HM := Lib.hid (M.store 0 rfl (G12.mk k 0 s).c)
  clear M hb1 hq
  go_wp2_with (first
    | (refine wpList_store_row rfl 29 (.tmp 4) (.tmp 17) rfl w.heap.size (G12.mk k 0 s).c rfl rfl 29 gz.c r0 g12_info rfl (G12.one _) ?_))
  exact bodyPost_ret (v := .tuple #[.agg (G12.mk k 0 s).c, .int .i64 0]) (results_row1 rfl _ _ w.heap.size 29 (G12.mk k 0 s).c (0, 0) _ rfl (HM.out.row 0 rfl) Try.underlying29 rfl g12_info _ rfl) rfl ⟨rfl, HM.out.below⟩
theorem parseG_any (k : Int) (s : ByteArray) (w : World) : Calls Try.prog 23 #[.int .i64 k, .string s] w fun e w' => e = .returned (.tuple #[.agg (if s.size = 48 then G12.mk k 0 s else gz).c, .int .i64 (if s.size < 48 then 2 else if s.size = 48 then 0 else 3)]) ∧ Below w.heap.size w w' := by
  by_cases h : s.size < 48
  · rw [if_neg (show ¬ s.size = 48 from by omega), if_pos h]
    exact parseG_short k s h w
  · rw [if_neg h]
    by_cases h2 : s.size = 48
    · rw [if_pos h2, if_pos h2]
      exact parseG_good k s h2 w
    · rw [if_neg h2, if_neg h2]
      exact parseG_long k s (by omega) w
theorem u64_join (a b : Nat) (ha : a < 4294967296) (hb : b < 4294967296) : bits .or .u64 ((a * 4294967296 : Nat) : Int) (b : Int) = ((a * 4294967296 + b : Nat) : Int) := by
  have hx : a * 4294967296 ||| b < 2 ^ 64 := Nat.or_lt_two_pow (by omega) (by omega)
  have hj := nat_join 32 (a * 4294967296) b (by omega) hb
  show IntKind.u64.wrap ((BitVec.ofInt 64 ((a * 4294967296 : Nat) : Int) ||| BitVec.ofInt 64 (b : Int)).toNat : Int) = _
  rw [BitVec.toNat_or, ofInt_u64 _ (by omega), ofInt_u64 b (by omega), hj]
  show ((a * 4294967296 + b : Nat) : Int) % 18446744073709551616 = _
  omega
theorem numP_add (l : List UInt8) (k : Nat) : ∀ m, numP l (k + m) = numP l k * 256 ^ m + numP (l.drop k) m := by
  intro m
  induction m with
  | zero => show numP l k = numP l k * 1 + 0; omega
  | succ m ih =>
    show numP l (k + m) * 256 + (l.getD (k + m) 0).toNat = numP l k * 256 ^ (m + 1) + (numP (l.drop k) m * 256 + ((l.drop k).getD m 0).toNat)
    have e : (l.drop k).getD m 0 = l.getD (k + m) 0 := by rw [List.getD_eq_getElem?_getD, List.getD_eq_getElem?_getD, List.getElem?_drop]
    rw [ih, e, Nat.pow_succ, Nat.add_mul, ← Nat.mul_assoc]
    omega
theorem numP_eight (l : List UInt8) : numP l 8 = numP l 4 * 4294967296 + numP (l.drop 4) 4 := numP_add l 4 4
set_option maxRecDepth 20000 in
set_option maxHeartbeats 1000000 in
theorem parseS_short (s : ByteArray) (h : s.size < 24) (w : World) : Calls Try.prog 24 #[.string s] w fun e w' => e = .returned (.tuple #[.agg gz.c, .int .i64 2]) ∧ Below w.heap.size w w' := by
  have M : Mem w [(w.heap.size, 29, gz.c)] (w.alloc (.cells gz.c 29)) := (Mem.init w).alloc _ rfl _ _
  have h1 : (s.size : Int) < 24 := by omega
  go_enter Try.func24, Try.ntmps24
  go_wp2
  exact bodyPost_ret (v := .tuple #[.agg gz.c, .int .i64 2]) (results_row1 rfl _ _ w.heap.size 29 gz.c (0, 0) _ rfl (M.row 0 rfl) Try.underlying29 rfl g12_info _ rfl) rfl ⟨rfl, M.below⟩
theorem ext_mid (s : ByteArray) (a : Nat) : (s.extract a s.size).data.toList = s.data.toList.drop a := by
  rw [extract_list, List.take_of_length_le (by rw [List.length_drop, len_list]; omega)]
set_option maxRecDepth 20000 in
set_option maxHeartbeats 1000000 in
theorem parseS_good (s : ByteArray) (h : 24 ≤ s.size) (hs : s.size ≤ 1000000) (w : World) : Calls Try.prog 24 #[.string s] w fun e w' => e = .returned (.tuple #[.agg (G12.mk 3 (numP s.data.toList 8) (s.extract 8 s.size)).c, .int .i64 0]) ∧ Below w.heap.size w w' := by
  have M : Mem w [(w.heap.size, 29, gz.c)] (w.alloc (.cells gz.c 29)) := (Mem.init w).alloc _ rfl _ _
  have h1 : ¬ (s.size : Int) < 24 := by omega
  have h4 : (4 : Int) ≤ (s.size : Int) := by omega
  have h8 : (8 : Int) ≤ (s.size : Int) := by omega
  have hz : (s.extract 8 s.size).size ≤ 1000000 := by rw [ByteArray.size_extract]; omega
  have hc := fun W => clone_any (s.extract 8 s.size) hz W
  have hr1 := fun W => readWord_any s (by omega) W
  have hr2 := fun W => readWord_any (s.extract 4 s.size) (by rw [ByteArray.size_extract]; omega) W
  rw [ext_mid] at hr2
  have he := numP_eight s.data.toList
  have l1 := numP_lt s.data.toList 4
  have l2 := numP_lt (s.data.toList.drop 4) 4
  have hp : (256 : Nat) ^ 4 = 4294967296 := rfl
  rw [hp] at l1 l2
  rw [he]
  generalize numP s.data.toList 4 = A at *
  generalize numP (s.data.toList.drop 4) 4 = B at *
  have hsh : IntKind.u64.wrap ((A : Int) * 4294967296) = ((A * 4294967296 : Nat) : Int) := by show ((A : Int) * 4294967296) % 18446744073709551616 = _; omega
  have hj := u64_join A B l1 l2
  generalize A * 4294967296 + B = N at hj ⊢
  generalize A * 4294967296 = C at hj hsh
  generalize hX : s.extract 8 s.size = X at hc ⊢
  have HC := Lib.hid hc
  have HR1 := Lib.hid hr1
  have HR2 := Lib.hid hr2
  clear hc hr1 hr2 he hz hp
  go_enter Try.func24, Try.ntmps24
  go_upto_region 3 with fail
  change Code.wp _ _ _ _ (w.alloc (.cells gz.c 29))
  generalize w.alloc (.cells gz.c 29) = W0 at M ⊢
  refine wp_region_noPanic ?_
  refine wp_region_flow (fin := ?fin1) 8 0 (by kernel_rfl) [.inl (.string s),
    .inl (.int .u64 (A : Int)),
    .inl (.int .u64 (C : Int)),
    .inl (.string s),
    .inl (.string (s.extract 4 s.size)),
    .inl (.int .u64 (B : Int)),
    .inl (.int .u64 (N : Int)),
    .inl (.int .u64 (N : Int))] rfl rfl (by kernel_rfl) ?hfin1 ?hE1 ?hend1
  case hfin1 =>
    intro G
    simp only [flowAll, flowVal, Act.put, List.setIfInBounds_toArray, List.set_cons_zero, List.set_cons_succ]
    exact rfl
  case hE1 =>
    intro G
    refine ⟨Or.inr (fun W hB hR => known_val rfl (by go_simp)),
      Or.inr (fun W hB hR => known_call 32 #[.string s] ((HR1.out _).mono (by rintro e w' ⟨rfl, rfl⟩; exact ⟨rfl, Below.refl _ _⟩)) rfl (by go_simp)),
      Or.inr (fun W hB hR => known_val rfl (by go_simp)),
      Or.inr (fun W hB hR => known_val rfl (by go_simp)),
      Or.inr (fun W hB hR => known_val rfl (by go_simp)),
      Or.inr (fun W hB hR => known_call 32 #[.string (s.extract 4 s.size)] ((HR2.out _).mono (by rintro e w' ⟨rfl, rfl⟩; exact ⟨rfl, Below.refl _ _⟩)) rfl (by go_simp)),
      Or.inr (fun W hB hR => known_val rfl (by go_simp)),
      Or.inr (fun W hB hR => known_val rfl (by go_simp)), trivial⟩
  intro G W hB hM
  replace M := M.drew.step hB
  clear hB hM
  refine wpAny_end (by kernel_rfl) ?_ _
  refine NoPanic.normal ?_
  have hq := HC.out W
  clear HC HR1 HR2
  go_wp2_with fail
  refine hq.mono ?_
  rintro e w1 ⟨rfl, hb1⟩
  replace M := M.step hb1
  have r0 := M.row 0 rfl
  have HM := Lib.hid (M.store 0 rfl (G12.mk 3 N X).c)
  clear M hb1 hq
  go_wp2_with (first
    | (refine wpList_store_row rfl 29 (.tmp 2) (.tmp 20) rfl w.heap.size (G12.mk 3 N X).c rfl rfl 29 gz.c r0 g12_info rfl (G12.one _) ?_))
  exact bodyPost_ret (v := .tuple #[.agg (G12.mk 3 N X).c, .int .i64 0]) (results_row1 rfl _ _ w.heap.size 29 (G12.mk 3 N X).c (0, 0) _ rfl (HM.out.row 0 rfl) Try.underlying29 rfl g12_info _ rfl) rfl ⟨rfl, HM.out.below⟩
/-- what is parsed -/
def parse12 (s : ByteArray) : Int × G12 :=
  if s.size < 1 then (2, gz)
  else if bAt s 0 = 1 ∨ bAt s 0 = 2 then (if s.size < 49 then (2, gz) else if s.size = 49 then (0, ⟨((bAt s 0).toNat : Int), 0, s.extract 1 s.size⟩) else (3, gz))
  else if bAt s 0 = 3 then (if s.size < 25 then (2, gz) else (0, ⟨3, numP (s.data.toList.drop 1) 8, s.extract 9 s.size⟩))
  else (3, gz)
set_option maxRecDepth 20000 in
set_option maxHeartbeats 1000000 in
theorem parse12_none (s : ByteArray) (h : s.size < 1) (w : World) : Calls Try.prog 11 #[.string s] w fun e w' => e = .returned (.tuple #[.agg gz.c, .int .i64 2]) ∧ Below w.heap.size w w' := by
  have M : Mem w [(w.heap.size, 29, gz.c)] (w.alloc (.cells gz.c 29)) := (Mem.init w).alloc _ rfl _ _
  have h1 : (s.size : Int) < 1 := by omega
  go_enter Try.func11, Try.ntmps11
  go_wp2
  exact bodyPost_ret (v := .tuple #[.agg gz.c, .int .i64 2]) (results_row1 rfl _ _ w.heap.size 29 gz.c (0, 0) _ rfl (M.row 0 rfl) Try.underlying29 rfl g12_info _ rfl) rfl ⟨rfl, M.below⟩
set_option maxRecDepth 20000 in
set_option maxHeartbeats 1000000 in
theorem parse12_other (s : ByteArray) (h : 1 ≤ s.size) (h1 : bAt s 0 ≠ 1) (h2 : bAt s 0 ≠ 2) (h3 : bAt s 0 ≠ 3) (w : World) : Calls Try.prog 11 #[.string s] w fun e w' => e = .returned (.tuple #[.agg gz.c, .int .i64 3]) ∧ Below w.heap.size w w' := by
  have M : Mem w [(w.heap.size, 29, gz.c)] (w.alloc (.cells gz.c 29)) := (Mem.init w).alloc _ rfl _ _
  have t0 : ¬ (s.size : Int) < 1 := by omega
  have t1 : (1 : Int) ≤ (s.size : Int) := by omega
  have hlt := UInt8.toNat_lt (bAt s 0)
  have q : ∀ c : UInt8, bAt s 0 ≠ c → (bAt s 0).toNat ≠ c.toNat := fun c hc e => hc (UInt8.toNat_inj.1 e)
  have q1 := q 1 h1
  have q2 := q 2 h2
  have q3 := q 3 h3
  have q1' : (bAt s 0).toNat ≠ 1 := q1
  have q2' : (bAt s 0).toNat ≠ 2 := q2
  have q3' : (bAt s 0).toNat ≠ 3 := q3
  have HI := Lib.hid (fun (o : Oper) (ev : Operand → Value) (W : World) (p r : Operand) => exec_index (o := o) (ev := ev) (w := W) p r s 0 (by omega))
  clear q1 q2 q3 q h1 h2 h3
  generalize (bAt s 0).toNat = N at *
  go_enter Try.func11, Try.ntmps11
  go_upto_region 3 with fail
  change Code.wp _ _ _ _ (w.alloc (.cells gz.c 29))
  generalize w.alloc (.cells gz.c 29) = W0 at M ⊢
  refine wp_region_noPanic ?_
  refine wp_region_flow (fin := ?fin2) 7 0 (by kernel_rfl) [.inl (.string s),
    .inl (.int .u8 (N : Int)),
    .inl (.int .i64 (N : Int)),
    .inl (.string s),
    .inl (.string (s.extract 1 s.size)),
    .inl (.int .i64 (N : Int)),
    .inl (.string (s.extract 1 s.size))] rfl rfl (by kernel_rfl) ?hfin2 ?hE2 ?hend2
  case hfin2 =>
    intro G
    simp only [flowAll, flowVal, Act.put, List.setIfInBounds_toArray, List.set_cons_zero, List.set_cons_succ]
    exact rfl
  case hE2 =>
    intro G
    refine ⟨Or.inr (fun W hB hR => known_val rfl (by go_simp)),
      Or.inr (fun W hB hR => known_val rfl (by exact HI.out _ _ _ _ _ rfl rfl rfl)),
      Or.inr (fun W hB hR => known_val rfl (by have hw : IntKind.i64.wrap (N : Int) = (N : Int) := IntWalk.i64_in _ (by omega); go_simp)),
      Or.inr (fun W hB hR => known_val rfl (by go_simp)),
      Or.inr (fun W hB hR => known_val rfl (by go_simp)),
      Or.inr (fun W hB hR => known_val rfl (by go_simp)),
      Or.inr (fun W hB hR => known_val rfl (by go_simp)), trivial⟩
  intro G W hB hM
  replace M := M.drew.step hB
  clear hB hM
  refine wpAny_end (by kernel_rfl) ?_ _
  refine NoPanic.normal ?_
  have HM := Lib.hid (M.store 0 rfl gz.c)
  have r0 := M.row 0 rfl
  clear M
  go_wp2_with (first
    | (refine wpList_store_row rfl 29 (.tmp 2) (.tmp 30) rfl w.heap.size gz.c rfl rfl 29 gz.c r0 g12_info rfl (G12.one _) ?_))
  exact bodyPost_ret (v := .tuple #[.agg gz.c, .int .i64 3]) (results_row1 rfl _ _ w.heap.size 29 gz.c (0, 0) _ rfl (HM.out.row 0 rfl) Try.underlying29 rfl g12_info _ rfl) rfl ⟨rfl, HM.out.below⟩
set_option maxRecDepth 20000 in
set_option maxHeartbeats 1000000 in
theorem parse12_k1 (s : ByteArray) (h : 1 ≤ s.size) (hs : s.size ≤ 1000000) (h1 : bAt s 0 = 1) (w : World) : Calls Try.prog 11 #[.string s] w fun e w' => e = .returned (.tuple #[.agg (if s.size = 49 then G12.mk 1 0 (s.extract 1 s.size) else gz).c, .int .i64 (if s.size < 49 then 2 else if s.size = 49 then 0 else 3)]) ∧ Below w.heap.size w w' := by
  have M : Mem w [(w.heap.size, 29, gz.c)] (w.alloc (.cells gz.c 29)) := (Mem.init w).alloc _ rfl _ _
  have t0 : ¬ (s.size : Int) < 1 := by omega
  have t1 : (1 : Int) ≤ (s.size : Int) := by omega
  have hq := fun W => parseG_any 1 (s.extract 1 s.size) W
  have hz : (s.extract 1 s.size).size = s.size - 1 := by rw [ByteArray.size_extract]; omega
  rw [hz] at hq
  have e1 : (s.size - 1 = 48) = (s.size = 49) := propext (by omega)
  have e2 : (s.size - 1 < 48) = (s.size < 49) := propext (by omega)
  simp only [e1, e2] at hq
  generalize (if s.size = 49 then G12.mk 1 0 (s.extract 1 s.size) else gz) = X at hq ⊢
  generalize (if s.size < 49 then (2 : Int) else if s.size = 49 then 0 else 3) = F at hq ⊢
  have HI := Lib.hid (fun (o : Oper) (ev : Operand → Value) (W : World) (p r : Operand) => exec_index (o := o) (ev := ev) (w := W) p r s 0 (by omega))
  rw [h1] at HI
  have HQ := Lib.hid hq
  clear hq h1
  go_enter Try.func11, Try.ntmps11
  go_upto_region 3 with fail
  change Code.wp _ _ _ _ (w.alloc (.cells gz.c 29))
  generalize w.alloc (.cells gz.c 29) = W0 at M ⊢
  refine wp_region_noPanic ?_
  refine wp_region_flow (fin := ?fin3) 7 0 (by kernel_rfl) [.inl (.string s),
    .inl (.int .u8 (1)),
    .inl (.int .i64 (1)),
    .inl (.string s),
    .inl (.string (s.extract 1 s.size)),
    .inl (.int .i64 (1)),
    .inl (.string (s.extract 1 s.size))] rfl rfl (by kernel_rfl) ?hfin3 ?hE3 ?hend3
  case hfin3 =>
    intro G
    simp only [flowAll, flowVal, Act.put, List.setIfInBounds_toArray, List.set_cons_zero, List.set_cons_succ]
    exact rfl
  case hE3 =>
    intro G
    refine ⟨Or.inr (fun W hB hR => known_val rfl (by go_simp)),
      Or.inr (fun W hB hR => known_val rfl (by exact HI.out _ _ _ _ _ rfl rfl rfl)),
      Or.inr (fun W hB hR => known_val rfl (by have hw : IntKind.i64.wrap (1) = (1) := IntWalk.i64_in _ (by omega); go_simp)),
      Or.inr (fun W hB hR => known_val rfl (by go_simp)),
      Or.inr (fun W hB hR => known_val rfl (by go_simp)),
      Or.inr (fun W hB hR => known_val rfl (by go_simp)),
      Or.inr (fun W hB hR => known_val rfl (by go_simp)), trivial⟩
  intro G W hB hM
  replace M := M.drew.step hB
  clear hB hM
  refine wpAny_end (by kernel_rfl) ?_ _
  refine NoPanic.normal ?_
  go_upto_region 7 with fail
  have hq := HQ.out W
  clear HQ
  go_wp2_with fail
  refine hq.mono ?_
  rintro e w1 ⟨rfl, hb1⟩
  replace M := M.step hb1
  have r0 := M.row 0 rfl
  have HM := Lib.hid (M.store 0 rfl X.c)
  clear M hb1 hq
  go_wp2_with (first
    | (refine wpList_store_row rfl 29 (.tmp 2) (.tmp 22) rfl w.heap.size X.c rfl rfl 29 gz.c r0 g12_info rfl (G12.one _) ?_))
  exact bodyPost_ret (v := .tuple #[.agg X.c, .int .i64 F]) (results_row1 rfl _ _ w.heap.size 29 X.c (0, 0) _ rfl (HM.out.row 0 rfl) Try.underlying29 rfl g12_info _ rfl) rfl ⟨rfl, HM.out.below⟩
set_option maxRecDepth 20000 in
set_option maxHeartbeats 1000000 in
theorem parse12_k2 (s : ByteArray) (h : 1 ≤ s.size) (hs : s.size ≤ 1000000) (h1 : bAt s 0 = 2) (w : World) : Calls Try.prog 11 #[.string s] w fun e w' => e = .returned (.tuple #[.agg (if s.size = 49 then G12.mk 2 0 (s.extract 1 s.size) else gz).c, .int .i64 (if s.size < 49 then 2 else if s.size = 49 then 0 else 3)]) ∧ Below w.heap.size w w' := by
  have M : Mem w [(w.heap.size, 29, gz.c)] (w.alloc (.cells gz.c 29)) := (Mem.init w).alloc _ rfl _ _
  have t0 : ¬ (s.size : Int) < 1 := by omega
  have t1 : (1 : Int) ≤ (s.size : Int) := by omega
  have hq := fun W => parseG_any 2 (s.extract 1 s.size) W
  have hz : (s.extract 1 s.size).size = s.size - 1 := by rw [ByteArray.size_extract]; omega
  rw [hz] at hq
  have e1 : (s.size - 1 = 48) = (s.size = 49) := propext (by omega)
  have e2 : (s.size - 1 < 48) = (s.size < 49) := propext (by omega)
  simp only [e1, e2] at hq
  generalize (if s.size = 49 then G12.mk 2 0 (s.extract 1 s.size) else gz) = X at hq ⊢
  generalize (if s.size < 49 then (2 : Int) else if s.size = 49 then 0 else 3) = F at hq ⊢
  have HI := Lib.hid (fun (o : Oper) (ev : Operand → Value) (W : World) (p r : Operand) => exec_index (o := o) (ev := ev) (w := W) p r s 0 (by omega))
  rw [h1] at HI
  have HQ := Lib.hid hq
  clear hq h1
  go_enter Try.func11, Try.ntmps11
  go_upto_region 3 with fail
  change Code.wp _ _ _ _ (w.alloc (.cells gz.c 29))
  generalize w.alloc (.cells gz.c 29) = W0 at M ⊢
  refine wp_region_noPanic ?_
  refine wp_region_flow (fin := ?fin4) 7 0 (by kernel_rfl) [.inl (.string s),
    .inl (.int .u8 (2)),
    .inl (.int .i64 (2)),
    .inl (.string s),
    .inl (.string (s.extract 1 s.size)),
    .inl (.int .i64 (2)),
    .inl (.string (s.extract 1 s.size))] rfl rfl (by kernel_rfl) ?hfin4 ?hE4 ?hend4
  case hfin4 =>
    intro G
    simp only [flowAll, flowVal, Act.put, List.setIfInBounds_toArray, List.set_cons_zero, List.set_cons_succ]
    exact rfl
  case hE4 =>
    intro G
    refine ⟨Or.inr (fun W hB hR => known_val rfl (by go_simp)),
      Or.inr (fun W hB hR => known_val rfl (by exact HI.out _ _ _ _ _ rfl rfl rfl)),
      Or.inr (fun W hB hR => known_val rfl (by have hw : IntKind.i64.wrap (2) = (2) := IntWalk.i64_in _ (by omega); go_simp)),
      Or.inr (fun W hB hR => known_val rfl (by go_simp)),
      Or.inr (fun W hB hR => known_val rfl (by go_simp)),
      Or.inr (fun W hB hR => known_val rfl (by go_simp)),
      Or.inr (fun W hB hR => known_val rfl (by go_simp)), trivial⟩
  intro G W hB hM
  replace M := M.drew.step hB
  clear hB hM
  refine wpAny_end (by kernel_rfl) ?_ _
  refine NoPanic.normal ?_
  go_upto_region 7 with fail
  have hq := HQ.out W
  clear HQ
  go_wp2_with fail
  refine hq.mono ?_
  rintro e w1 ⟨rfl, hb1⟩
  replace M := M.step hb1
  have r0 := M.row 0 rfl
  have HM := Lib.hid (M.store 0 rfl X.c)
  clear M hb1 hq
  go_wp2_with (first
    | (refine wpList_store_row rfl 29 (.tmp 2) (.tmp 22) rfl w.heap.size X.c rfl rfl 29 gz.c r0 g12_info rfl (G12.one _) ?_))
  exact bodyPost_ret (v := .tuple #[.agg X.c, .int .i64 F]) (results_row1 rfl _ _ w.heap.size 29 X.c (0, 0) _ rfl (HM.out.row 0 rfl) Try.underlying29 rfl g12_info _ rfl) rfl ⟨rfl, HM.out.below⟩
theorem parseS_any (s : ByteArray) (hs : s.size ≤ 1000000) (w : World) : Calls Try.prog 24 #[.string s] w fun e w' => e = .returned (.tuple #[.agg (if s.size < 24 then gz else G12.mk 3 (numP s.data.toList 8) (s.extract 8 s.size)).c, .int .i64 (if s.size < 24 then 2 else 0)]) ∧ Below w.heap.size w w' := by
  by_cases h : s.size < 24
  · rw [if_pos h, if_pos h]
    exact parseS_short s h w
  · rw [if_neg h, if_neg h]
    exact parseS_good s (by omega) hs w
set_option maxRecDepth 20000 in
set_option maxHeartbeats 1000000 in
theorem parse12_k3 (s : ByteArray) (h : 1 ≤ s.size) (hs : s.size ≤ 1000000) (h1 : bAt s 0 = 3) (w : World) : Calls Try.prog 11 #[.string s] w fun e w' => e = .returned (.tuple #[.agg (if s.size < 25 then gz else G12.mk 3 (numP (s.data.toList.drop 1) 8) (s.extract 9 s.size)).c, .int .i64 (if s.size < 25 then 2 else 0)]) ∧ Below w.heap.size w w' := by
  have M : Mem w [(w.heap.size, 29, gz.c)] (w.alloc (.cells gz.c 29)) := (Mem.init w).alloc _ rfl _ _
  have t0 : ¬ (s.size : Int) < 1 := by omega
  have t1 : (1 : Int) ≤ (s.size : Int) := by omega
  have hq := fun W => parseS_any (s.extract 1 s.size) (by rw [ByteArray.size_extract]; omega) W
  have hz : (s.extract 1 s.size).size = s.size - 1 := by rw [ByteArray.size_extract]; omega
  have hx : (s.extract 1 s.size).extract 8 (s.extract 1 s.size).size = s.extract 9 s.size := by
    rw [ByteArray.extract_extract, hz]
    congr 1
    omega
  rw [hx, hz, ext_mid] at hq
  have e2 : (s.size - 1 < 24) = (s.size < 25) := propext (by omega)
  simp only [e2] at hq
  generalize (if s.size < 25 then gz else G12.mk 3 (numP (s.data.toList.drop 1) 8) (s.extract 9 s.size)) = X at hq ⊢
  generalize (if s.size < 25 then (2 : Int) else 0) = F at hq ⊢
  have HI := Lib.hid (fun (o : Oper) (ev : Operand → Value) (W : World) (p r : Operand) => exec_index (o := o) (ev := ev) (w := W) p r s 0 (by omega))
  rw [h1] at HI
  have HQ := Lib.hid hq
  clear hq h1
  go_enter Try.func11, Try.ntmps11
  go_upto_region 3 with fail
  change Code.wp _ _ _ _ (w.alloc (.cells gz.c 29))
  generalize w.alloc (.cells gz.c 29) = W0 at M ⊢
  refine wp_region_noPanic ?_
  refine wp_region_flow (fin := ?fin5) 7 0 (by kernel_rfl) [.inl (.string s),
    .inl (.int .u8 (3)),
    .inl (.int .i64 (3)),
    .inl (.string s),
    .inl (.string (s.extract 1 s.size)),
    .inl (.int .i64 (3)),
    .inl (.string (s.extract 1 s.size))] rfl rfl (by kernel_rfl) ?hfin5 ?hE5 ?hend5
  case hfin5 =>
    intro G
    simp only [flowAll, flowVal, Act.put, List.setIfInBounds_toArray, List.set_cons_zero, List.set_cons_succ]
    exact rfl
  case hE5 =>
    intro G
    refine ⟨Or.inr (fun W hB hR => known_val rfl (by go_simp)),
      Or.inr (fun W hB hR => known_val rfl (by exact HI.out _ _ _ _ _ rfl rfl rfl)),
      Or.inr (fun W hB hR => known_val rfl (by have hw : IntKind.i64.wrap (3) = (3) := IntWalk.i64_in _ (by omega); go_simp)),
      Or.inr (fun W hB hR => known_val rfl (by go_simp)),
      Or.inr (fun W hB hR => known_val rfl (by go_simp)),
      Or.inr (fun W hB hR => known_val rfl (by go_simp)),
      Or.inr (fun W hB hR => known_val rfl (by go_simp)), trivial⟩
  intro G W hB hM
  replace M := M.drew.step hB
  clear hB hM
  refine wpAny_end (by kernel_rfl) ?_ _
  refine NoPanic.normal ?_
  go_upto_region 9 with fail
  have hq := HQ.out W
  clear HQ
  go_wp2_with fail
  refine hq.mono ?_
  rintro e w1 ⟨rfl, hb1⟩
  replace M := M.step hb1
  have r0 := M.row 0 rfl
  have HM := Lib.hid (M.store 0 rfl X.c)
  clear M hb1 hq
  go_wp2_with (first
    | (refine wpList_store_row rfl 29 (.tmp 2) (.tmp 28) rfl w.heap.size X.c rfl rfl 29 gz.c r0 g12_info rfl (G12.one _) ?_))
  exact bodyPost_ret (v := .tuple #[.agg X.c, .int .i64 F]) (results_row1 rfl _ _ w.heap.size 29 X.c (0, 0) _ rfl (HM.out.row 0 rfl) Try.underlying29 rfl g12_info _ rfl) rfl ⟨rfl, HM.out.below⟩
/-- Parse, whatever the text -/
theorem parse12_any (s : ByteArray) (hs : s.size ≤ 1000000) (w : World) : Calls Try.prog 11 #[.string s] w fun e w' => e = .returned (.tuple #[.agg (parse12 s).2.c, .int .i64 (parse12 s).1]) ∧ Below w.heap.size w w' := by
  unfold parse12
  by_cases h : s.size < 1
  · rw [if_pos h]
    exact parse12_none s h w
  rw [if_neg h]
  by_cases h1 : bAt s 0 = 1
  · have hk := parse12_k1 s (by omega) hs h1 w
    rw [if_pos (Or.inl h1), h1]
    by_cases h2 : s.size < 49
    · rw [if_neg (show ¬ s.size = 49 from by omega), if_pos h2] at hk
      rw [if_pos h2]
      exact hk
    · rw [if_neg h2] at hk ⊢
      by_cases h3 : s.size = 49
      · rw [if_pos h3, if_pos h3] at hk
        rw [if_pos h3]
        exact hk
      · rw [if_neg h3, if_neg h3] at hk
        rw [if_neg h3]
        exact hk
  by_cases h1b : bAt s 0 = 2
  · have hk := parse12_k2 s (by omega) hs h1b w
    rw [if_pos (Or.inr h1b), h1b]
    by_cases h2 : s.size < 49
    · rw [if_neg (show ¬ s.size = 49 from by omega), if_pos h2] at hk
      rw [if_pos h2]
      exact hk
    · rw [if_neg h2] at hk ⊢
      by_cases h3 : s.size = 49
      · rw [if_pos h3, if_pos h3] at hk
        rw [if_pos h3]
        exact hk
      · rw [if_neg h3, if_neg h3] at hk
        rw [if_neg h3]
        exact hk
  rw [if_neg (fun h => h.elim h1 h1b)]
  by_cases h3 : bAt s 0 = 3
  · have hk := parse12_k3 s (by omega) hs h3 w
    rw [if_pos h3]
    by_cases h2 : s.size < 25
    · rw [if_pos h2, if_pos h2] at hk
      rw [if_pos h2]
      exact hk
    · rw [if_neg h2, if_neg h2] at hk
      rw [if_neg h2]
      exact hk
  · rw [if_neg h3]
    exact parse12_other s (by omega) h1 h1b h3 w
end Go.Proofs.Ythpbhimmfmablaa

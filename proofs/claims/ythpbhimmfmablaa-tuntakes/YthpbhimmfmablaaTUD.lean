/- tun.Cut: walked. -/
import Derived.Test.YthpbhimmfmablaaTUA
import Derived.Test.YthpbhimmfmablaaLS
import Derived.Test.YthpbhimmfmablaaWA
namespace Go.Proofs.Ythpbhimmfmablaa
open Go.RowKit
/-- texts as cells -/
def sc (l : List ByteArray) : Array Value := (l.map Value.string).toArray
theorem sc_size (l : List ByteArray) : (sc l).size = l.length := by simp [sc]
theorem Has.text {w : World} {g : Nat} {t : TypeId} {l : List ByteArray} (h : Has w g t (sc l)) (i : Nat) (hi : i < l.length) : w.cell? ⟨g, i, none⟩ = some (.string (l.getD i ⟨#[]⟩)) := by
  rw [h.cell]
  simp [sc, List.getD_eq_getElem?_getD, hi]
theorem Has.setS {w : World} {g : Nat} {t : TypeId} {l : List ByteArray} (h : Has w g t (sc l)) (i : Nat) (x : ByteArray) : Has (w.setCell ⟨g, i, none⟩ (.string x)) g t (sc (l.set i x)) := by
  have h2 := h.set i (.string x)
  have e : (sc l).setIfInBounds i (.string x) = sc (l.set i x) := by simp [sc, List.map_set]
  rw [e] at h2; exact h2
/-- a list filled up to n texts -/
def padT (xs : List ByteArray) (n k : Nat) : List ByteArray := xs.take k ++ List.replicate (n - k) ⟨#[]⟩
theorem padT_length (xs : List ByteArray) (n j : Nat) (hj : j ≤ xs.length) (hn : j ≤ n) : (padT xs n j).length = n := by
  unfold padT
  rw [List.length_append, List.length_take, List.length_replicate]; omega
theorem padT_set (xs : List ByteArray) (n j : Nat) (hj : j < xs.length) (hn : j < n) : (padT xs n j).set j (xs.getD j ⟨#[]⟩) = padT xs n (j + 1) := by
  unfold padT
  have hl : (xs.take j).length = j := by rw [List.length_take]; omega
  rw [List.set_append_right _ _ (by omega), hl, Nat.sub_self, show n - j = (n - (j + 1)) + 1 from by omega, List.replicate_succ, List.set_cons_zero, List.take_succ_eq_append_getElem hj, List.getD_eq_getElem?_getD, List.getElem?_eq_getElem hj]
  simp only [Option.getD_some, List.append_assoc, List.cons_append, List.nil_append]
theorem made_sc (n : Nat) : madeCells #[.string ByteArray.empty] n = sc (List.replicate n ⟨#[]⟩) := by
  apply Array.toList_inj.1
  rw [toList_madeCells_one]
  simp only [sc, List.map_replicate]
  rfl
theorem text_info : (Try.prog.info? 9).map (fun i => (i.zero, i.size, i.bytes)) = some (some (.string ByteArray.empty), 1, 16) := by kernel_rfl
theorem make_texts (m : Nat) (hm : m ≤ 1000000) (w : World) :
    (Instr.makeSlice 34 (.int .i64 (m : Int)) (.int .i64 (m : Int))).run Try.prog w = .ok (.slice (some ⟨w.heap.size, 0, none⟩) m m) (w.alloc (.cells (sc (List.replicate m ⟨#[]⟩)) 9)) := by
  obtain ⟨i, hi, hz0, hz1, hz2⟩ := info_parts text_info
  have h := run_make (P := Try.prog) w 34 9 i (.string ByteArray.empty) Try.underlying34 hi hz0 .i64 .i64 m m (by omega) (by omega) (by rw [hz2]; omega) (by omega)
  rw [h, hz1, Int.toNat_natCast, Nat.mul_one, ← made_sc]
  rfl
/-- how many pieces a text takes -/
def pieceN (z : Nat) : Nat := (z + 511) / 512
/-- piece i -/
def pieceB (n : Nat) (s : ByteArray) (c i : Nat) : ByteArray := ⟨((((1 : UInt8) :: beTail n 4) ++ [lowB1 (i : Int)]) ++ [lowB1 (c : Int)]).toArray⟩ ++ s.extract (i * 512) (min (i * 512 + 512) s.size)
/-- the pieces -/
def cutL (n : Nat) (s : ByteArray) : List ByteArray := (List.range (pieceN s.size)).map (pieceB n s (pieceN s.size))
theorem cutL_length (n : Nat) (s : ByteArray) : (cutL n s).length = pieceN s.size := by simp [cutL]
theorem cutL_get (n : Nat) (s : ByteArray) (i : Nat) (h : i < pieceN s.size) : (cutL n s).getD i ⟨#[]⟩ = pieceB n s (pieceN s.size) i := by
  rw [List.getD_eq_getElem?_getD]
  simp [cutL, h]
theorem exec_min {o : Oper} {ev : Operand → Value} {w : World} (x y : Operand) (a b : Int) (m : Int) (hm : min a b = m) (ho : o.op = .call { callee := .builtin .min, args := #[x, y], argTypes := #[3, 3] }) (hx : ev x = .int .i64 a) (hy : ev y = .int .i64 b) :
    (execOp ev o).run Try.prog w = .ok (.value (.int .i64 m)) w := by
  by_cases h : b < a
  · have e : m = b := by omega
    subst e
    unfold execOp
    simp only [ho]
    go_simp
  · have e : m = a := by omega
    subst e
    unfold execOp
    simp only [ho]
    go_simp
set_option maxRecDepth 20000 in
set_option maxHeartbeats 1000000 in
theorem cut_no (n : Nat) (s : ByteArray) (h : s.size < 1 ∨ 1536 < s.size) (w : World) : Calls Try.prog 12 #[.int .u32 (n : Int), .string s] w fun e w' => e = .returned (.tuple #[.slice none 0 0, .int .i64 1]) ∧ w' = w := by
  by_cases h1 : s.size < 1
  · have t1 : (s.size : Int) < 1 := by omega
    go_enter Try.func12, Try.ntmps12
    go_wp2
    go_ret2
    exact ⟨rfl, rfl⟩
  · have t1 : ¬ (s.size : Int) < 1 := by omega
    have t2 : (1536 : Int) < (s.size : Int) := by omega
    go_enter Try.func12, Try.ntmps12
    go_wp2
    go_ret2
    exact ⟨rfl, rfl⟩
set_option maxRecDepth 20000 in
set_option maxHeartbeats 1000000 in
theorem cut_any (n : Nat) (hn : n < 4294967296) (s : ByteArray) (h1 : 1 ≤ s.size) (h2 : s.size ≤ 1536) (w : World) : Calls Try.prog 12 #[.int .u32 (n : Int), .string s] w fun e w' =>
    e = .returned (.tuple #[.slice (some ⟨w.heap.size, 0, none⟩) (pieceN s.size) (pieceN s.size), .int .i64 0]) ∧ Below w.heap.size w w' ∧ Has w' w.heap.size 9 (sc (cutL n s)) := by
  have hl := cutL_length n s
  have hget := cutL_get n s
  have hc : (((s.size : Int) + 512 - 1) / 512) = (pieceN s.size : Int) := by unfold pieceN; omega
  have hc0 : 1 ≤ pieceN s.size := by unfold pieceN; omega
  have hc1 : pieceN s.size ≤ 3 := by unfold pieceN; omega
  have hcl : ∀ k, k < pieceN s.size → k * 512 < s.size := fun k hk => by unfold pieceN at hk; omega
  generalize pieceN s.size = c at *
  generalize cutL n s = L at *
  have hmk := make_texts c (by omega) w
  have E : Has (w.alloc (.cells (sc (List.replicate c ⟨#[]⟩)) 9)) w.heap.size 9 (sc (padT L c 0)) := Has.fresh w 9 _
  have B0 : Below w.heap.size w (w.alloc (.cells (sc (List.replicate c ⟨#[]⟩)) 9)) := (Below.refl _ _).alloc (Nat.le_refl _) _
  have t1 : ¬ (s.size : Int) < 1 := by omega
  have t2 : ¬ (1536 : Int) < (s.size : Int) := by omega
  have HG := Lib.hid hget
  have HCL := Lib.hid hcl
  have HL := Lib.hid hl
  clear hget hcl hl
  have hpw := fun W => printWord_any n W
  have hmod : n % 4294967296 = n := Nat.mod_eq_of_lt hn
  rw [hmod] at hpw
  have lA := beTail_length n 4
  unfold pieceB at HG
  generalize beTail n 4 = A at *
  have HP := Lib.hid hpw
  clear hpw hmod
  have hc9 : (c : Int) ≤ 3 := by omega
  go_enter Try.func12, Try.ntmps12
  go_wp2
  generalize w.alloc (.cells (sc (List.replicate c ⟨#[]⟩)) 9) = W0 at E B0 ⊢
  have E0 := Lib.hid E
  have B1 := Lib.hid B0
  clear E B0 hmk hc
  go_loopw [26] (fun i wr => ∃ k : Nat, k ≤ c ∧ i = .int .i64 (k : Int) ∧ Has wr w.heap.size 9 (sc (padT L c k)) ∧ Below w.heap.size w wr) (fun i _ => c - (intOf i).toNat)
  case atStart => exact ⟨0, by omega, rfl, E0.out, B1.out⟩
  case round =>
    obtain ⟨k, hk, rfl, hE, hB⟩ := hrel
    by_cases hlt : k < c
    · have t3 : decide ((k : Int) < (c : Int)) = true := by simp; omega
      have t4 : (k : Int) < (c : Int) := by omega
      have hf := HCL.out k hlt
      have hg := HG.out k hlt
      have hkk : (k : Int) * 512 = ((k * 512 : Nat) : Int) := by omega
      generalize k * 512 = F at hf hg hkk
      have hmin : min ((F : Int) + 512) (s.size : Int) = ((min (F + 512) s.size : Nat) : Int) := by omega
      have hto : (min (F + 512) s.size : Nat) ≤ s.size := Nat.min_le_right _ _
      have hto2 : F ≤ min (F + 512) s.size := by omega
      generalize min (F + 512) s.size = T at hg hmin hto hto2
      have hlp : (s.extract F T).size ≤ s.size := by rw [ByteArray.size_extract]; omega
      have hF : (F : Int) ≤ 1536 := by omega
      have hT : (T : Int) ≤ (s.size : Int) := by omega
      have hFT : (F : Int) ≤ (T : Int) := by omega
      have HG2 := Lib.hid hg
      clear hg
      go_wp2_with (first
        | (refine wpExec rfl (.int .i64 (T : Int)) (exec_min (.tmp 32) (.tmp 34) _ _ _ hmin rfl rfl rfl) ?_))
      refine wp_region_noPanic ?_
      refine wp_region_flow (fin := ?fin1) 19 1 (by kernel_rfl) [.inl (.slice (some ⟨w.heap.size, 0, none⟩) c c),
        .inl (.int .i64 (k : Int)),
        .inl (.int .u32 (n : Int)),
        .inl (.int .u64 (n : Int)),
        .inl (.string ⟨A.toArray⟩),
        .inl (.string ⟨((1 : UInt8) :: A).toArray⟩),
        .inl (.int .i64 (k : Int)),
        .inl (.string ⟨[lowB1 (k : Int)].toArray⟩),
        .inl (.string ⟨(((1 : UInt8) :: A) ++ [lowB1 (k : Int)]).toArray⟩),
        .inl (.slice (some ⟨w.heap.size, 0, none⟩) c c),
        .inl (.int .i64 (c : Int)),
        .inl (.string ⟨[lowB1 (c : Int)].toArray⟩),
        .inl (.string ⟨((((1 : UInt8) :: A) ++ [lowB1 (k : Int)]) ++ [lowB1 (c : Int)]).toArray⟩),
        .inl (.string s),
        .inl (.int .i64 (F : Int)),
        .inl (.int .i64 (T : Int)),
        .inl (.string (s.extract F T)),
        .inl (.string (⟨((((1 : UInt8) :: A) ++ [lowB1 (k : Int)]) ++ [lowB1 (c : Int)]).toArray⟩ ++ s.extract F T)),
        .inl (.pointer (some ⟨w.heap.size, k, none⟩))] rfl rfl (by kernel_rfl) ?hfin1 ?hE1 ?hend1
      case hfin1 =>
        intro G
        simp only [flowAll, flowVal, Act.put, List.setIfInBounds_toArray, List.set_cons_zero, List.set_cons_succ]
        exact rfl
      case hE1 =>
        intro G
        refine ⟨Or.inr (fun W hB hR => known_val rfl (by go_simp)),
          Or.inr (fun W hB hR => known_val rfl (by go_simp)),
          Or.inr (fun W hB hR => known_val rfl (by go_simp)),
          Or.inr (fun W hB hR => known_val rfl (by have hw : IntKind.u64.wrap (n : Int) = (n : Int) := (by show (n : Int) % 18446744073709551616 = _; omega); go_simp)),
          Or.inr (fun W hB hR => known_call 22 #[.int .u64 (n : Int)] (HP.out _) rfl (by go_simp)),
          Or.inr (fun W hB hR => known_val rfl (by exact exec_cat _ _ _ _ _ (cat_str [1] A) (by rw [str_size, str_size, lA]; decide) rfl rfl rfl)),
          Or.inr (fun W hB hR => known_val rfl (by go_simp)),
          Or.inr (fun W hB hR => known_call 21 #[.int .i64 (k : Int)] (oneByte_any (k : Int) _) rfl (by go_simp)),
          Or.inr (fun W hB hR => known_val rfl (by exact exec_cat _ _ _ _ _ (cat_str _ _) (by rw [str_size, str_size, List.length_cons, lA]; simp only [List.length_cons, List.length_nil]; decide) rfl rfl rfl)),
          Or.inr (fun W hB hR => known_val rfl (by go_simp)),
          Or.inr (fun W hB hR => known_val rfl (by go_simp)),
          Or.inr (fun W hB hR => known_call 21 #[.int .i64 (c : Int)] (oneByte_any (c : Int) _) rfl (by go_simp)),
          Or.inr (fun W hB hR => known_val rfl (by exact exec_cat _ _ _ _ _ (cat_str _ _) (by rw [str_size, str_size, List.length_append, List.length_cons, lA]; simp only [List.length_cons, List.length_nil]; decide) rfl rfl rfl)),
          Or.inr (fun W hB hR => known_val rfl (by go_simp)),
          Or.inr (fun W hB hR => known_val rfl (by go_simp)),
          Or.inr (fun W hB hR => known_val rfl (by go_simp)),
          Or.inr (fun W hB hR => known_val rfl (by go_simp)),
          Or.inr (fun W hB hR => known_val rfl (by exact exec_cat _ _ _ _ _ rfl (by rw [str_size, List.length_append, List.length_append, List.length_cons, lA]; simp only [List.length_cons, List.length_nil]; omega) rfl rfl rfl)),
          Or.inr (fun W hB hR => known_val rfl (by go_simp)), trivial⟩
      intro G W hB2 hM
      have hE2 := hE.drew.below hB2 hE.lt
      have hB3 : Below w.heap.size w W := hB.drew.trans (hB2.mono hB.size)
      clear hB2 hM hE hB
      have c2 := hE2.text k (by rw [padT_length _ _ _ (by rw [HL.out]; omega) (by omega)]; omega)
      have f2 := hE2.frozen k
      rw [← HG2.out]
      refine only0 19 (W.setCell ⟨w.heap.size, k, none⟩ (.string (L.getD k ⟨#[]⟩))) _ (by kernel_rfl) rfl rfl rfl (by go_simp) ?_
      clear c2 f2
      have hE3 := hE2.setS k (L.getD k ⟨#[]⟩)
      rw [padT_set L c k (by rw [HL.out]; omega) hlt] at hE3
      have hB4 : Below w.heap.size w (W.setCell ⟨w.heap.size, k, none⟩ (.string (L.getD k ⟨#[]⟩))) := hB3.setCell (p := ⟨w.heap.size, k, none⟩) (Nat.le_refl _) _
      generalize W.setCell ⟨w.heap.size, k, none⟩ (.string (L.getD k ⟨#[]⟩)) = W2 at hE3 hB4 ⊢
      refine wpAny_end (by kernel_rfl) ?_ _
      refine NoPanic.normal ?_
      generalize L.getD k ⟨#[]⟩ = piece at *
      go_wp2
      go_roundw
      case rel => exact ⟨k + 1, by omega, by go_num, hE3, hB4⟩
      case measure => simp [intOf]; omega
    · have hk2 : k = c := by omega
      subst hk2
      have t3 : decide ((k : Int) < (k : Int)) = false := by simp
      have hp : padT L k k = L := by
        unfold padT
        rw [Nat.sub_self, List.take_of_length_le (by rw [HL.out]; omega)]
        simp
      rw [hp] at hE
      clear hp hlt
      go_wp2
      go_ret2
      exact ⟨rfl, hB, hE⟩
end Go.Proofs.Ythpbhimmfmablaa

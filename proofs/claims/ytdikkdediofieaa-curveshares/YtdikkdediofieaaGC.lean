/- causeyref06.Plus: walked; the document's elements. -/
import Derived.Test.YtdikkdediofieaaGB
namespace Go.Proofs.Ytdikkdediofieaa
open Go.RowKit
/-- an element of the document: 32 digits -/
def de (n : Nat) : Array Value := is (dg 256 n 32)
theorem de_info (n : Nat) : (Try.prog.info? 30).map (·.size) = some (de n).size := infoD _ (dg_length _ _ _)
theorem de_z (n : Nat) : z32i.size = (de n).size := z32i_size _ (dg_length _ _ _)
theorem de_size (m n : Nat) : (de m).size = (de n).size := by unfold de; rw [is_size, is_size, dg_length, dg_length]
theorem num_de (a : Nat) (ha : a < 57896044618658097711785492504343953926634992332820282019728792003956564819949) : num 256 (dg 256 a 32) = a := by
  rw [num_dg]; exact Nat.mod_eq_of_lt (Nat.lt_of_lt_of_le ha (by rw [e32]; omega))
section
variable {o : Oper} {ev : Operand → Value} {w : World}
theorem load_de (x : Operand) (g n : Nat) (h : Has w g 30 (de n)) (ho : o.op = .load 30 x) (he : ev x = .pointer (some ⟨g, 0, none⟩)) : (execOp ev o).run Try.prog w = .ok (.value (.agg (de n))) w :=
  exec_load_row (P := Try.prog) 30 x g h Try.underlying30 rfl (de_info n) ho he
theorem alloc_de (ho : o.op = .alloc 30) : (execOp ev o).run Try.prog w = .ok (.value (.pointer (some ⟨w.heap.size, 0, none⟩))) (w.alloc (.cells z32i 30)) := by
  unfold execOp
  simp only [ho]
  go_simp
  rfl
theorem store_de (x y : Operand) (g n : Nat) {old : Array Value} (h : Has w g 30 old) (hs : old.size = (de n).size) (ho : o.op = .store 30 x y) (hx : ev x = .pointer (some ⟨g, 0, none⟩)) (hy : ev y = .agg (de n)) :
    (execOp ev o).run Try.prog w = .ok .skip (w.setRow g (de n)) := exec_store_row (P := Try.prog) (w := w) 30 x y g (de n) h (de_info n) hs (is_one _) ho hx hy
end
theorem is_set (l : List Nat) (i x : Nat) : (is l).setIfInBounds i (I64 x) = is (l.set i x) := by simp [is, List.map_set]
/-- a digit's carry is put down beside it -/
theorem carry_set (o : List Nat) (i p : Nat) (hi : i + 1 < o.length) (h0 : o.getD (i + 1) 0 = 0) (s : Nat) (hs : s = o.getD i 0 + p) :
    num 256 (((o.set i s).set (i + 1) (s / 256)).set i (s % 256)) = num 256 o + p * 256 ^ i := by
  have e : ((o.set i s).set (i + 1) (s / 256)).set i (s % 256) = (o.set i (s % 256)).set (i + 1) (s / 256) := by
    rw [List.set_comm _ _ (show i + 1 ≠ i from by omega), List.set_set]
  have h1 := step_mul 256 o i s p 0 (by omega) (by omega)
  have h2 := num_set 256 (o.set i (s % 256)) (i + 1) (s / 256) (by rw [List.length_set]; exact hi)
  rw [getD_set_other _ _ _ _ (by omega), h0] at h2
  rw [e]
  omega
theorem getD_set_self (l : List Nat) (i v : Nat) (h : i < l.length) : (l.set i v).getD i 0 = v := by
  rw [List.getD_eq_getElem?_getD, List.getElem?_set_self h]; rfl
theorem dig_carry (o : List Nat) (i s : Nat) (h : Dig 256 o) (hs : s < 512) : Dig 256 (((o.set i s).set (i + 1) (s / 256)).set i (s % 256)) := by
  have e : ((o.set i s).set (i + 1) (s / 256)).set i (s % 256) = (o.set i (s % 256)).set (i + 1) (s / 256) := by
    rw [List.set_comm _ _ (show i + 1 ≠ i from by omega), List.set_set]
  rw [e]
  exact (h.set i (by omega)).set (i + 1) (by omega)
theorem getD_after (o : List Nat) (i s k : Nat) (h : i + 1 < k) : (((o.set i s).set (i + 1) (s / 256)).set i (s % 256)).getD k 0 = o.getD k 0 := by
  rw [getD_set_other _ _ _ _ (by omega), getD_set_other _ _ _ _ (by omega), getD_set_other _ _ _ _ (by omega)]
theorem getD_next (o : List Nat) (i s : Nat) (h : i + 1 < o.length) : (((o.set i s).set (i + 1) (s / 256)).set i (s % 256)).getD (i + 1) 0 = s / 256 := by
  rw [getD_set_other _ _ _ _ (by omega), getD_set_self _ _ _ (by rw [List.length_set]; exact h)]
set_option maxHeartbeats 1000000 in
theorem cplus_any (a b : Nat) (ha : a < 57896044618658097711785492504343953926634992332820282019728792003956564819949) (hb : b < 57896044618658097711785492504343953926634992332820282019728792003956564819949) (w : World) :
    Calls Try.prog 27 #[.agg (de a), .agg (de b)] w fun e w' => e = .returned (.agg (de (fadd a b))) ∧ Below w.heap.size w w' := by
  have M0 : Mem w [(w.heap.size, 30, de a), (w.heap.size + 1, 30, de b), (w.heap.size + 1 + 1, 30, z32i)] (((w.alloc (.cells (de a) 30)).alloc (.cells (de b) 30)).alloc (.cells z32i 30)) :=
    (((Mem.init w).alloc _ rfl _ _).alloc _ (by simp) _ _).alloc _ (by simp) _ _
  have hsz : (((w.alloc (.cells (de a) 30)).alloc (.cells (de b) 30)).alloc (.cells z32i 30)).heap.size = w.heap.size + 1 + 1 + 1 := by simp
  have na := num_de a ha
  have nb' := num_de b hb
  have lA := dg_length 256 a 32
  have lB := dg_length 256 b 32
  have dA := dg_dig 256 a 32 (by omega)
  have dB := dg_dig 256 b 32 (by omega)
  have hR : ∀ o : List Nat, num 256 o = a + b → dg 256 (num 256 o % 57896044618658097711785492504343953926634992332820282019728792003956564819949) 32 = dg 256 (fadd a b) 32 := fun o h => by rw [h]; rfl
  have lR := dg_length 256 (fadd a b) 32
  unfold de at M0 hsz ⊢
  generalize dg 256 a 32 = A at *
  generalize dg 256 b 32 = B at *
  generalize dg 256 (fadd a b) 32 = R at *
  have HA := Lib.hid (And.intro na (And.intro lA dA))
  have HB := Lib.hid (And.intro nb' (And.intro lB dB))
  have HR := Lib.hid (And.intro hR lR)
  have HSZ := Lib.hid hsz
  clear na nb' lA lB dA dB hR ha hb lR hsz
  go_enter Try.func27, Try.ntmps27
  go_upto_region 1 with fail
  change Code.wp _ _ _ _ (((w.alloc (.cells (is A) 30)).alloc (.cells (is B) 30)).alloc (.cells z32i 30))
  generalize ((w.alloc (.cells (is A) 30)).alloc (.cells (is B) 30)).alloc (.cells z32i 30) = w0 at M0 HSZ ⊢
  obtain ⟨Z, hZ⟩ : ∃ Z, Z = List.replicate 33 0 := ⟨_, rfl⟩
  have hmk : (Instr.makeSlice 47 (.int .i64 33) (.int .i64 33)).run Try.prog w0 = .ok (.slice (some ⟨w.heap.size + 1 + 1 + 1, 0, none⟩) 33 33) (w0.alloc (.cells (is Z) 3)) := by
    rw [← HSZ.out, hZ]; exact make_ints 33 (by omega) w0
  replace M0 := M0.alloc _ HSZ.out 3 (is Z)
  have HZ := Lib.hid hZ
  simp only [List.cons_append, List.nil_append] at M0
  clear HSZ hZ
  go_upto_region 2 with fail
  generalize w0.alloc (.cells (is Z) 3) = w1 at M0 ⊢
  clear hmk w0
  go_wp2
  go_loopw [6] (fun iv wr => ∃ (i : Nat) (o : List Nat), i ≤ 32 ∧ iv = .int .i64 (i : Int) ∧ o.length = 33 ∧ Dig 256 o ∧ o.getD i 0 ≤ 1 ∧ (∀ k, i < k → o.getD k 0 = 0) ∧ num 256 o = num 256 (A.take i) + num 256 (B.take i) ∧ Mem w [(w.heap.size, 30, is A), (w.heap.size + 1, 30, is B), (w.heap.size + 1 + 1, 30, z32i), (w.heap.size + 1 + 1 + 1, 3, is o)] wr) (fun iv _ => 32 - (intOf iv).toNat)
  case atStart =>
    have M1 := M0
    rw [HZ.out] at M1
    have hz : ∀ k, (List.replicate 33 0).getD k 0 = 0 := fun k => by
      rw [List.getD_eq_getElem?_getD, List.getElem?_replicate]
      split <;> rfl
    exact ⟨0, _, by omega, rfl, List.length_replicate, Dig.zeros _ (by omega) _, by rw [hz]; omega, fun k _ => hz k, by rw [num_zeros]; rfl, M1⟩
  case round =>
    clear M0 w1 HZ Z
    obtain ⟨i, o, hi, rfl, lo, do', h1, hz, hn, M⟩ := hrel
    by_cases hlt : i < 32
    · have t1 : decide ((i : Int) < 32) = true := by simp; omega
      have c1 := (M.drew.row 3 rfl).i64 i (by omega)
      have c2 := (M.drew.row 0 rfl).i64 i (by rw [HA.out.2.1]; omega)
      have c3 := (M.drew.row 1 rfl).i64 i (by rw [HB.out.2.1]; omega)
      have f1 := (M.drew.row 3 rfl).frozen i
      have b2 := HA.out.2.2.getD (by omega) i
      have b3 := HB.out.2.2.getD (by omega) i
      obtain ⟨s, hs⟩ : ∃ s, s = o.getD i 0 + (A.getD i 0 + B.getD i 0) := ⟨_, rfl⟩
      have hsl : s < 512 := by omega
      have hsum : (o.getD i 0 : Int) + (A.getD i 0 : Int) + (B.getD i 0 : Int) = (s : Int) := by omega
      have hst := carry_set o i (A.getD i 0 + B.getD i 0) (by omega) (hz _ (by omega)) s hs
      have hd := dig_carry o i s do' hsl
      have hx := getD_next o i s (by omega)
      have hz2 : ∀ k, i + 1 < k → (((o.set i s).set (i + 1) (s / 256)).set i (s % 256)).getD k 0 = 0 := fun k hk => by rw [getD_after _ _ _ _ hk]; exact hz k (by omega)
      have hnx : num 256 (((o.set i s).set (i + 1) (s / 256)).set i (s % 256)) = num 256 (A.take (i + 1)) + num 256 (B.take (i + 1)) := by
        rw [hst, hn, num_take_succ 256 A i (by rw [HA.out.2.1]; omega), num_take_succ 256 B i (by rw [HB.out.2.1]; omega), Nat.add_mul]
        omega
      have hl : (((o.set i s).set (i + 1) (s / 256)).set i (s % 256)).length = 33 := by rw [List.length_set, List.length_set, List.length_set, lo]
      have M1 := M.drew.setCell 3 rfl i (I64 s)
      simp only [List.set_cons_zero, List.set_cons_succ] at M1
      rw [is_set] at M1
      have lo1 : (o.set i s).length = 33 := by rw [List.length_set, lo]
      have lo2 : ((o.set i s).set (i + 1) (s / 256)).length = 33 := by rw [List.length_set, lo1]
      have g1 : (o.set i s).getD i 0 = s := getD_set_self _ _ _ (by omega)
      have g2 : ((o.set i s).set (i + 1) (s / 256)).getD i 0 = s := by rw [getD_set_other _ _ _ _ (by omega), g1]
      have HN := Lib.hid (And.intro hl (And.intro hd (And.intro hx (And.intro hz2 hnx))))
      have HL1 := Lib.hid (And.intro lo1 g1)
      have HL2 := Lib.hid (And.intro lo2 g2)
      have hrem : (s : Int).tmod 256 = ((s % 256 : Nat) : Int) := tmodI s 256
      have hquo : (s : Int).tdiv 256 = ((s / 256 : Nat) : Int) := tdivI s 256
      have hs1 : s / 256 ≤ 1 := by omega
      have hsm : s % 256 < 256 := Nat.mod_lt _ (by omega)
      clear hst hd hx hz2 hnx hl lo1 g1 lo2 g2 lo do' hz hn hs M
      generalize s % 256 = r at *
      generalize s / 256 = q at *
      generalize o.getD i 0 = x1 at *
      generalize A.getD i 0 = x2 at *
      generalize B.getD i 0 = x3 at *
      have HSUM := Lib.hid hsum
      clear hsum
      go_upto_region 6 with fail
      go_region
      rw [HSUM.out]
      go_upto_region 6 with fail
      change Code.wp _ _ _ _ (wr.drew.setCell ⟨w.heap.size + 1 + 1 + 1, i, none⟩ (I64 s))
      generalize wr.drew.setCell ⟨w.heap.size + 1 + 1 + 1, i, none⟩ (I64 s) = w2 at M1 ⊢
      clear c1 c2 c3 f1 wr
      have c1 := (M1.row 3 rfl).i64 i (by rw [HL1.out.1]; omega)
      rw [HL1.out.2] at c1
      have f2 := (M1.row 3 rfl).frozen (i + 1)
      have c0 := (M1.row 3 rfl).i64 (i + 1) (by rw [HL1.out.1]; omega)
      generalize (o.set i s).getD (i + 1) 0 = y0 at c0
      have M2 := M1.setCell 3 rfl (i + 1) (I64 q)
      simp only [List.set_cons_zero, List.set_cons_succ] at M2
      rw [is_set] at M2
      have hw1 : IntKind.i64.wrap ((i : Int) + 1) = ((i + 1 : Nat) : Int) := by rw [IntWalk.i64_in _ (by omega)]; omega
      have hn33 : ¬ ((33 : Int) ≤ ((i + 1 : Nat) : Int)) := by omega
      generalize hp : i + 1 = p at *
      go_upto_region 7 with fail
      change Code.wp _ _ _ _ (w2.setCell ⟨w.heap.size + 1 + 1 + 1, p, none⟩ (I64 q))
      generalize w2.setCell ⟨w.heap.size + 1 + 1 + 1, p, none⟩ (I64 q) = w3 at M2 ⊢
      clear c0 c1 f2 M1 w2
      have c1 := (M2.row 3 rfl).i64 i (by rw [HL2.out.1]; omega)
      rw [HL2.out.2] at c1
      have f1 := (M2.row 3 rfl).frozen i
      have M3 := M2.setCell 3 rfl i (I64 r)
      simp only [List.set_cons_zero, List.set_cons_succ] at M3
      rw [is_set] at M3
      have hw2 : (i : Int) + 1 = (p : Int) := by omega
      clear M2
      go_wp2
      go_roundw
      case rel => exact ⟨p, _, by omega, by go_num, HN.out.1, HN.out.2.1, by rw [HN.out.2.2.1]; exact hs1, HN.out.2.2.2.1, HN.out.2.2.2.2, M3⟩
      case measure => simp [intOf]; omega
    · have hi3 : i = 32 := by omega
      subst hi3
      rw [show (((32 : Nat) : Int)) = 32 from rfl]
      have t1 : decide ((32 : Int) < 32) = false := by decide
      rw [List.take_of_length_le (by rw [HA.out.2.1]; omega), List.take_of_length_le (by rw [HB.out.2.1]; omega), HA.out.1, HB.out.1] at hn
      have hrd := (M.row 3 rfl).rdI
      rw [lo] at hrd
      have p1 := crest_any o do' (by omega) (by omega) _ wr hrd
      rw [HR.out.1 o hn] at p1
      have P1 := Lib.hid p1
      clear p1 hrd do' h1 hz hn lo
      go_wp2_with fail
      go_at_call 26
      refine P1.out.mono ?_
      rintro e w9 ⟨rfl, hb1⟩
      replace M := M.step hb1
      clear hb1 P1 wr
      have r2 := M.row 2 rfl
      have lR := HR.out.2
      go_wp2_with (refine wpList_store_row rfl 30 (.tmp 4) (.tmp 45) rfl (w.heap.size + 1 + 1) (is R) rfl rfl 30 z32i r2 (infoD R lR) (z32i_size R lR) (is_one _) ?_)
      replace M := M.store 2 rfl (is R)
      simp only [List.set_cons_zero, List.set_cons_succ] at M
      exact bodyPost_ret (v := .agg (is R)) (results_cell_row rfl _ _ (w.heap.size + 1 + 1) 30 (is R) (0, 0) _ rfl (M.row 2 rfl) Try.underlying30 rfl (infoD R lR)) rfl ⟨rfl, M.below⟩
end Go.Proofs.Ytdikkdediofieaa

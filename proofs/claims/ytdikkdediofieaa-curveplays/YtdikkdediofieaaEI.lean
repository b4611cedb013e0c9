/- The numbers below 2^255 - 19; what the curve's functions answer of them; curve.step: walked. -/
import Derived.Test.YtdikkdediofieaaEH
import Derived.Test.YtdikkdediofieaaHM
namespace Go.Proofs.Ytdikkdediofieaa
open Go.RowKit
def fadd (a b : Nat) : Nat := (a + b) % 57896044618658097711785492504343953926634992332820282019728792003956564819949
def fsub (a b : Nat) : Nat := (a + (57896044618658097711785492504343953926634992332820282019728792003956564819949 - b)) % 57896044618658097711785492504343953926634992332820282019728792003956564819949
def fmul (a b : Nat) : Nat := a * b % 57896044618658097711785492504343953926634992332820282019728792003956564819949
theorem fadd_lt (a b : Nat) : fadd a b < 57896044618658097711785492504343953926634992332820282019728792003956564819949 := Nat.mod_lt _ (by omega)
theorem fsub_lt (a b : Nat) : fsub a b < 57896044618658097711785492504343953926634992332820282019728792003956564819949 := Nat.mod_lt _ (by omega)
theorem fmul_lt (a b : Nat) : fmul a b < 57896044618658097711785492504343953926634992332820282019728792003956564819949 := Nat.mod_lt _ (by omega)
/-- an element's words -/
def elL (n : Nat) : List Nat := dg 18446744073709551616 n 4
theorem elL_length (n : Nat) : (elL n).length = 4 := dg_length _ _ _
theorem elL_dig (n : Nat) : Dig 18446744073709551616 (elL n) := dg_dig _ _ _ (by omega)
def el (n : Nat) : Array Value := us (elL n)
def ptL (x z : Nat) : List Nat := elL x ++ elL z
theorem ptL_length (x z : Nat) : (ptL x z).length = 8 := by unfold ptL; rw [List.length_append, elL_length, elL_length]
theorem ptL_dig (x z : Nat) : Dig 18446744073709551616 (ptL x z) := by
  intro a h
  unfold ptL at h
  rcases List.mem_append.1 h with h | h
  · exact elL_dig _ a h
  · exact elL_dig _ a h
def pt (x z : Nat) : Array Value := us (ptL x z)
theorem el_info (n : Nat) : (Try.prog.info? 39).map (·.size) = some (el n).size := infoE _ (elL_length n)
theorem pt_info (x z : Nat) : (Try.prog.info? 41).map (·.size) = some (pt x z).size := infoP _ (ptL_length x z)
theorem el_z4 (n : Nat) : z4.size = (el n).size := z4_size _ (elL_length n)
theorem pt_z8 (x z : Nat) : z8w.size = (pt x z).size := z8w_size _ (ptL_length x z)
theorem pt_size (x z x' z' : Nat) : (pt x z).size = (pt x' z').size := by unfold pt; rw [us_size, us_size, ptL_length, ptL_length]
section
variable (X Y : Nat) (hX : X < 57896044618658097711785492504343953926634992332820282019728792003956564819949) (hY : Y < 57896044618658097711785492504343953926634992332820282019728792003956564819949) (w : World)
include hX hY
theorem sum_el : Calls Try.prog 35 #[.agg (el X), .agg (el Y)] w fun e w' => e = .returned (.agg (el (fadd X Y))) ∧ Below w.heap.size w w' := sum_any X Y (by omega) w
theorem difference_el : Calls Try.prog 36 #[.agg (el X), .agg (el Y)] w fun e w' => e = .returned (.agg (el (fsub X Y))) ∧ Below w.heap.size w w' := difference_any X Y (by omega) (by omega) w
theorem product_el : Calls Try.prog 24 #[.agg (el X), .agg (el Y)] w fun e w' => e = .returned (.agg (el (fmul X Y))) ∧ Below w.heap.size w w' := product_any X Y (by omega) (by omega) w
omit hY in
theorem square_el : Calls Try.prog 34 #[.agg (el X)] w fun e w' => e = .returned (.agg (el (fmul X X))) ∧ Below w.heap.size w w' := square_any X (by omega) w
end
section
variable {o : Oper} {ev : Operand → Value} {w : World}
/-- an element is loaded: a block's own, or one of the two of a point -/
theorem load_el (x : Operand) (g n : Nat) (h : Has w g 39 (el n)) (ho : o.op = .load 39 x) (he : ev x = .pointer (some ⟨g, 0, none⟩)) : (execOp ev o).run Try.prog w = .ok (.value (.agg (el n))) w :=
  exec_load_row (P := Try.prog) 39 x g h Try.underlying39 rfl (el_info n) ho he
theorem load_fst (x : Operand) (g m n : Nat) (h : Has w g 41 (pt m n)) (ho : o.op = .load 39 x) (he : ev x = .pointer (some ⟨g, 0, none⟩)) : (execOp ev o).run Try.prog w = .ok (.value (.agg (el m))) w :=
  exec_load_part (P := Try.prog) 39 x g 0 ((elL m).map U64) h (by
    rw [List.length_map, elL_length]; unfold pt us ptL; rw [List.toList_toArray, List.map_append, List.drop_zero, List.take_append_of_le_length (by rw [List.length_map, elL_length]; omega), List.take_of_length_le (by rw [List.length_map, elL_length]; omega)]) Try.underlying39 rfl (by rw [List.length_map]; exact (el_info m).trans (by unfold el; rw [us_size])) ho he
theorem load_snd (x : Operand) (g m n : Nat) (h : Has w g 41 (pt m n)) (ho : o.op = .load 39 x) (he : ev x = .pointer (some ⟨g, 4, none⟩)) : (execOp ev o).run Try.prog w = .ok (.value (.agg (el n))) w :=
  exec_load_part (P := Try.prog) 39 x g 4 ((elL n).map U64) h (by
    rw [List.length_map, elL_length]; unfold pt us ptL; rw [List.toList_toArray, List.map_append, List.drop_append_of_le_length (by rw [List.length_map, elL_length]; omega), List.drop_of_length_le (by rw [List.length_map, elL_length]; omega), List.nil_append, List.take_of_length_le (by rw [List.length_map, elL_length]; omega)]) Try.underlying39 rfl (by rw [List.length_map]; exact (el_info n).trans (by unfold el; rw [us_size])) ho he
theorem load_pt (x : Operand) (g m n : Nat) (h : Has w g 41 (pt m n)) (ho : o.op = .load 41 x) (he : ev x = .pointer (some ⟨g, 0, none⟩)) : (execOp ev o).run Try.prog w = .ok (.value (.agg (pt m n))) w :=
  exec_load_row (P := Try.prog) 41 x g h Try.underlying41 rfl (pt_info m n) ho he
theorem build_pt (m n : Nat) (x y : Operand) (ho : o.op = .build 41 #[(0, x), (1, y)]) (hx : ev x = .agg (el m)) (hy : ev y = .agg (el n)) : (execOp ev o).run Try.prog w = .ok (.value (.agg (pt m n))) w := by
  unfold execOp
  simp only [ho, List.map_toArray, List.map_cons, List.map_nil, hx, hy]
  unfold el pt ptL us elL
  simp only [dg, List.map_cons, List.map_nil, List.cons_append, List.nil_append]
  go_simp
theorem alloc_el (ho : o.op = .alloc 39) : (execOp ev o).run Try.prog w = .ok (.value (.pointer (some ⟨w.heap.size, 0, none⟩))) (w.alloc (.cells z4 39)) := by
  unfold execOp
  simp only [ho]
  go_simp
  rfl
theorem alloc_pt (ho : o.op = .alloc 41) : (execOp ev o).run Try.prog w = .ok (.value (.pointer (some ⟨w.heap.size, 0, none⟩))) (w.alloc (.cells z8w 41)) := by
  unfold execOp
  simp only [ho]
  go_simp
  rfl
theorem store_el (x y : Operand) (g n : Nat) {old : Array Value} (h : Has w g 39 old) (hs : old.size = (el n).size) (ho : o.op = .store 39 x y) (hx : ev x = .pointer (some ⟨g, 0, none⟩)) (hy : ev y = .agg (el n)) :
    (execOp ev o).run Try.prog w = .ok .skip (w.setRow g (el n)) := exec_store_row (P := Try.prog) (w := w) 39 x y g (el n) h (el_info n) hs (us_one _) ho hx hy
theorem store_pt (x y : Operand) (g m n : Nat) {old : Array Value} (h : Has w g 41 old) (hs : old.size = (pt m n).size) (ho : o.op = .store 41 x y) (hx : ev x = .pointer (some ⟨g, 0, none⟩)) (hy : ev y = .agg (pt m n)) :
    (execOp ev o).run Try.prog w = .ok .skip (w.setRow g (pt m n)) := exec_store_row (P := Try.prog) (w := w) 41 x y g (pt m n) h (pt_info m n) hs (us_one _) ho hx hy
end
/-- two points: those of the ladder -/
structure Two where
  x : Nat
  z : Nat
  w : Nat
  t : Nat
/-- the chapter's step, at the place u -/
def stepT (u : Nat) (s : Two) : Two :=
  let e := fadd s.x s.z
  let g := fsub s.x s.z
  let f := fmul e e
  let h := fmul g g
  let i := fsub f h
  let j := fmul (fsub s.w s.t) e
  let k := fmul (fadd s.w s.t) g
  ⟨fmul f h, fmul i (fadd f (fmul 121665 i)), fmul (fadd j k) (fadd j k), fmul u (fmul (fsub j k) (fsub j k))⟩
def Two.Ok (s : Two) : Prop := s.x < 57896044618658097711785492504343953926634992332820282019728792003956564819949 ∧ s.z < 57896044618658097711785492504343953926634992332820282019728792003956564819949 ∧ s.w < 57896044618658097711785492504343953926634992332820282019728792003956564819949 ∧ s.t < 57896044618658097711785492504343953926634992332820282019728792003956564819949
theorem stepT_ok (u : Nat) (s : Two) : (stepT u s).Ok := ⟨fmul_lt _ _, fmul_lt _ _, fmul_lt _ _, fmul_lt _ _⟩
end Go.Proofs.Ytdikkdediofieaa

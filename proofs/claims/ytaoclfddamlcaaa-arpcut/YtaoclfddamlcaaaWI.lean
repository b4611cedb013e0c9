/- Questions and answers in memory: parts that are loaded, and built of their parts. -/
import Derived.Test.YtaoclfddamlcaaaWC
namespace Go.Proofs.Ytaoclfddamlcaaa
open Go.RowKit
theorem A9.parts {x : A9} (h : x.Fit) : ∃ m0 m1 m2 m3 m4 m5 t0 t1 t2 t3 t4 t5 i0 i1 i2 i3 k0 k1 k2 k3, x.m = [m0, m1, m2, m3, m4, m5] ∧ x.t = [t0, t1, t2, t3, t4, t5] ∧ x.i = [i0, i1, i2, i3] ∧ x.w = [k0, k1, k2, k3] := by
  obtain ⟨m0, m1, m2, m3, m4, m5, hm⟩ := six_of h.m
  obtain ⟨t0, t1, t2, t3, t4, t5, ht⟩ := six_of h.t
  obtain ⟨i0, i1, i2, i3, hi⟩ := four_of h.i
  obtain ⟨k0, k1, k2, k3, hw⟩ := four_of h.w
  exact ⟨m0, m1, m2, m3, m4, m5, t0, t1, t2, t3, t4, t5, i0, i1, i2, i3, k0, k1, k2, k3, hm, ht, hi, hw⟩
theorem a9_cells {x : A9} {m0 m1 m2 m3 m4 m5 t0 t1 t2 t3 t4 t5 i0 i1 i2 i3 k0 k1 k2 k3 : UInt8} (hm : x.m = [m0, m1, m2, m3, m4, m5]) (ht : x.t = [t0, t1, t2, t3, t4, t5]) (hi : x.i = [i0, i1, i2, i3]) (hw : x.w = [k0, k1, k2, k3]) : x.c = #[.int .i64 x.op, B8 m0, B8 m1, B8 m2, B8 m3, B8 m4, B8 m5, B8 t0, B8 t1, B8 t2, B8 t3, B8 t4, B8 t5, B8 i0, B8 i1, B8 i2, B8 i3, B8 k0, B8 k1, B8 k2, B8 k3] := by
  unfold A9.c; rw [hm, ht, hi, hw]; rfl
theorem r9_info {x : A9} (h : x.Fit) : (Try.prog.info? 26).map (·.size) = some x.c.size := by rw [A9.size h]; kernel_rfl
section
variable {o : Oper} {ev : Operand → Value} {w : World} {g : Nat} {t : TypeId} {x : A9}
theorem bl_get (l : List UInt8) (n : Nat) (h : l.length = n) (ty : TypeId) (hi : (Try.prog.info? ty).map (·.size) = some n) : (Try.prog.info? ty).map (·.size) = some (l.map B8).length := by
  rw [List.length_map, h]; exact hi
theorem exec9_m (h : Has w g t x.c) (hx : x.Fit) (p : Operand) (ho : o.op = .load 23 p) (he : ev p = .pointer (some ⟨g, 1, none⟩)) : (execOp ev o).run Try.prog w = .ok (.value (.agg (bs x.m))) w :=
  exec_load_part 23 p g 1 (x.m.map B8) h (by
  have := part_at [] x.m (x.t ++ (x.i ++ x.w)) 0 rfl (Value.int .i64 x.op)
  exact this) Try.underlying23 rfl (bl_get x.m 6 hx.m 23 (by kernel_rfl)) ho he
theorem exec9_t (h : Has w g t x.c) (hx : x.Fit) (p : Operand) (ho : o.op = .load 23 p) (he : ev p = .pointer (some ⟨g, 7, none⟩)) : (execOp ev o).run Try.prog w = .ok (.value (.agg (bs x.t))) w :=
  exec_load_part 23 p g 7 (x.t.map B8) h (by
  have := part_at x.m x.t (x.i ++ x.w) 6 hx.m (Value.int .i64 x.op)
  exact this) Try.underlying23 rfl (bl_get x.t 6 hx.t 23 (by kernel_rfl)) ho he
theorem exec9_i (h : Has w g t x.c) (hx : x.Fit) (p : Operand) (ho : o.op = .load 24 p) (he : ev p = .pointer (some ⟨g, 13, none⟩)) : (execOp ev o).run Try.prog w = .ok (.value (.agg (bs x.i))) w :=
  exec_load_part 24 p g 13 (x.i.map B8) h (by
  have := part_at (x.m ++ x.t) x.i x.w 12 (by rw [List.length_append, hx.m, hx.t]) (Value.int .i64 x.op)
  rw [List.append_assoc] at this
  exact this) Try.underlying24 rfl (bl_get x.i 4 hx.i 24 (by kernel_rfl)) ho he
theorem exec9_w (h : Has w g t x.c) (hx : x.Fit) (p : Operand) (ho : o.op = .load 24 p) (he : ev p = .pointer (some ⟨g, 17, none⟩)) : (execOp ev o).run Try.prog w = .ok (.value (.agg (bs x.w))) w :=
  exec_load_part 24 p g 17 (x.w.map B8) h (by
  have := part_at (x.m ++ (x.t ++ x.i)) x.w [] 16 (by simp [hx.m, hx.t, hx.i]) (Value.int .i64 x.op)
  simp only [List.append_nil, List.append_assoc] at this
  exact this) Try.underlying24 rfl (bl_get x.w 4 hx.w 24 (by kernel_rfl)) ho he
set_option maxHeartbeats 1000000 in
theorem build9 (hx : x.Fit) (a0 a1 a2 a3 a4 : Operand) (ho : o.op = .build 31 #[(0, a0), (1, a1), (2, a2), (3, a3), (4, a4)]) (h0 : ev a0 = .int .i64 x.op) (h1 : ev a1 = .agg (bs x.m)) (h2 : ev a2 = .agg (bs x.t)) (h3 : ev a3 = .agg (bs x.i)) (h4 : ev a4 = .agg (bs x.w)) :
    (execOp ev o).run Try.prog w = .ok (.value (.agg x.c)) w := by
  obtain ⟨m0, m1, m2, m3, m4, m5, t0, t1, t2, t3, t4, t5, i0, i1, i2, i3, k0, k1, k2, k3, em, et, ei, ew⟩ := A9.parts hx
  rw [a9_cells em et ei ew]
  rw [em] at h1
  rw [et] at h2
  rw [ei] at h3
  rw [ew] at h4
  unfold bs at h1 h2 h3 h4
  simp only [List.map_cons, List.map_nil] at h1 h2 h3 h4
  unfold execOp
  simp only [ho]
  go_simp
set_option maxHeartbeats 1000000 in
theorem build9r (hx : x.Fit) (a0 a1 a2 a3 a4 : Operand) (ho : o.op = .build 26 #[(0, a0), (1, a1), (2, a2), (3, a3), (4, a4)]) (h0 : ev a0 = .int .i64 x.op) (h1 : ev a1 = .agg (bs x.m)) (h2 : ev a2 = .agg (bs x.t)) (h3 : ev a3 = .agg (bs x.i)) (h4 : ev a4 = .agg (bs x.w)) :
    (execOp ev o).run Try.prog w = .ok (.value (.agg x.c)) w := by
  obtain ⟨m0, m1, m2, m3, m4, m5, t0, t1, t2, t3, t4, t5, i0, i1, i2, i3, k0, k1, k2, k3, em, et, ei, ew⟩ := A9.parts hx
  rw [a9_cells em et ei ew]
  rw [em] at h1
  rw [et] at h2
  rw [ei] at h3
  rw [ew] at h4
  unfold bs at h1 h2 h3 h4
  simp only [List.map_cons, List.map_nil] at h1 h2 h3 h4
  unfold execOp
  simp only [ho]
  go_simp
set_option maxHeartbeats 1000000 in
theorem build9a (hx : x.Fit) (a0 a1 a2 a3 a4 : Operand) (ho : o.op = .build 31 #[(0, a0), (1, a1), (3, a3), (2, a2), (4, a4)]) (h0 : ev a0 = .int .i64 x.op) (h1 : ev a1 = .agg (bs x.m)) (h2 : ev a2 = .agg (bs x.t)) (h3 : ev a3 = .agg (bs x.i)) (h4 : ev a4 = .agg (bs x.w)) :
    (execOp ev o).run Try.prog w = .ok (.value (.agg x.c)) w := by
  obtain ⟨m0, m1, m2, m3, m4, m5, t0, t1, t2, t3, t4, t5, i0, i1, i2, i3, k0, k1, k2, k3, em, et, ei, ew⟩ := A9.parts hx
  rw [a9_cells em et ei ew]
  rw [em] at h1
  rw [et] at h2
  rw [ei] at h3
  rw [ew] at h4
  unfold bs at h1 h2 h3 h4
  simp only [List.map_cons, List.map_nil] at h1 h2 h3 h4
  unfold execOp
  simp only [ho]
  go_simp
end
end Go.Proofs.Ytaoclfddamlcaaa

/- Questions and answers of neighbours as values: their cells, in memory; parts; built of parts; '==' of the same. No program is run here. -/
import Derived.Test.YtkjkmnaiddjjnaaLG
import Derived.Test.YtkjkmnaiddjjnaaLS
namespace Go.Proofs.Ytkjkmnaiddjjnaa
open Go.RowKit
/-- a question, or an answer -/
structure N10 where
  op : Int
  f : List UInt8
  t : List UInt8
  a : List UInt8
  m : List UInt8
  h : Bool
  g : List UInt8
/-- its parts -/
def N10.segs (x : N10) : List (List Value) := [[.int .i64 x.op], x.f.map B8, x.t.map B8, x.a.map B8, x.m.map B8, [.bool x.h], x.g.map B8]
/-- its cells -/
def N10.c (x : N10) : Array Value := segC x.segs
/-- its addresses have sixteen bytes each, or six; its flags four -/
structure N10.Fit (x : N10) : Prop where
  f : x.f.length = 16
  t : x.t.length = 16
  a : x.a.length = 16
  m : x.m.length = 6
  g : x.g.length = 4
theorem N10.size {x : N10} (h : x.Fit) : x.c.size = 60 := by
  unfold N10.c segC N10.segs
  simp [h.f, h.t, h.a, h.m, h.g]
theorem N10.one (x : N10) : x.c.all (·.oneCell') = true := by
  unfold N10.c segC N10.segs
  simp [Value.oneCell']
theorem n10_info {x : N10} (h : x.Fit) : (Try.prog.info? 32).map (·.size) = some x.c.size := by rw [N10.size h]; kernel_rfl
theorem r10_info {x : N10} (h : x.Fit) : (Try.prog.info? 27).map (·.size) = some x.c.size := by rw [N10.size h]; kernel_rfl
section
variable {x : N10}
theorem N10.at2 (h : x.Fit) : segAt x.segs 2 = 17 := by simp [segAt, N10.segs, h.f]
theorem N10.at3 (h : x.Fit) : segAt x.segs 3 = 33 := by simp [segAt, N10.segs, h.f, h.t]
theorem N10.at4 (h : x.Fit) : segAt x.segs 4 = 49 := by simp [segAt, N10.segs, h.f, h.t, h.a]
theorem N10.at5 (h : x.Fit) : segAt x.segs 5 = 55 := by simp [segAt, N10.segs, h.f, h.t, h.a, h.m]
theorem N10.at6 (h : x.Fit) : segAt x.segs 6 = 56 := by simp [segAt, N10.segs, h.f, h.t, h.a, h.m]
variable {w : World} {g : Nat} {t : TypeId}
theorem Has.n_op (h : Has w g t x.c) : w.cell? ⟨g, 0, none⟩ = some (.int .i64 x.op) := Has.seg h 0 rfl rfl
theorem Has.n_h (h : Has w g t x.c) (hx : x.Fit) : w.cell? ⟨g, 55, none⟩ = some (.bool x.h) := Has.seg h 5 rfl (N10.at5 hx)
theorem Has.n_f (h : Has w g t x.c) : w.rangeAt g 1 (x.f.map B8) := Has.segs h 1 rfl rfl
theorem Has.n_t (h : Has w g t x.c) (hx : x.Fit) : w.rangeAt g 17 (x.t.map B8) := Has.segs h 2 rfl (N10.at2 hx)
theorem Has.n_a (h : Has w g t x.c) (hx : x.Fit) : w.rangeAt g 33 (x.a.map B8) := Has.segs h 3 rfl (N10.at3 hx)
theorem Has.n_m (h : Has w g t x.c) (hx : x.Fit) : w.rangeAt g 49 (x.m.map B8) := Has.segs h 4 rfl (N10.at4 hx)
theorem Has.n_g (h : Has w g t x.c) (hx : x.Fit) : w.rangeAt g 56 (x.g.map B8) := Has.segs h 6 rfl (N10.at6 hx)
variable {o : Oper} {ev : Operand → Value}
theorem exec10_f (h : Has w g t x.c) (hx : x.Fit) (p : Operand) (ho : o.op = .load 22 p) (he : ev p = .pointer (some ⟨g, 1, none⟩)) : (execOp ev o).run Try.prog w = .ok (.value (.agg (bs x.f))) w :=
  exec_seg 22 p h 1 rfl rfl Try.underlying22 rfl (bl_get x.f 16 hx.f 22 (by kernel_rfl)) ho he
theorem exec10_t (h : Has w g t x.c) (hx : x.Fit) (p : Operand) (ho : o.op = .load 22 p) (he : ev p = .pointer (some ⟨g, 17, none⟩)) : (execOp ev o).run Try.prog w = .ok (.value (.agg (bs x.t))) w :=
  exec_seg 22 p h 2 rfl (N10.at2 hx) Try.underlying22 rfl (bl_get x.t 16 hx.t 22 (by kernel_rfl)) ho he
theorem exec10_a (h : Has w g t x.c) (hx : x.Fit) (p : Operand) (ho : o.op = .load 22 p) (he : ev p = .pointer (some ⟨g, 33, none⟩)) : (execOp ev o).run Try.prog w = .ok (.value (.agg (bs x.a))) w :=
  exec_seg 22 p h 3 rfl (N10.at3 hx) Try.underlying22 rfl (bl_get x.a 16 hx.a 22 (by kernel_rfl)) ho he
theorem exec10_m (h : Has w g t x.c) (hx : x.Fit) (p : Operand) (ho : o.op = .load 24 p) (he : ev p = .pointer (some ⟨g, 49, none⟩)) : (execOp ev o).run Try.prog w = .ok (.value (.agg (bs x.m))) w :=
  exec_seg 24 p h 4 rfl (N10.at4 hx) Try.underlying24 rfl (bl_get x.m 6 hx.m 24 (by kernel_rfl)) ho he
theorem exec10_g (h : Has w g t x.c) (hx : x.Fit) (p : Operand) (ho : o.op = .load 25 p) (he : ev p = .pointer (some ⟨g, 56, none⟩)) : (execOp ev o).run Try.prog w = .ok (.value (.agg (bs x.g))) w :=
  exec_seg 25 p h 6 rfl (N10.at6 hx) Try.underlying25 rfl (bl_get x.g 4 hx.g 25 (by kernel_rfl)) ho he
end
/-- sixteen zero bytes -/
def o16 : List UInt8 := [0, 0, 0, 0, 0, 0, 0, 0, 0, 0, 0, 0, 0, 0, 0, 0]
abbrev nz : N10 := ⟨0, o16, o16, o16, o6, false, o4⟩
theorem nz_fit : nz.Fit := ⟨rfl, rfl, rfl, rfl, rfl⟩
/-- where a part lies, and how many cells it has -/
def place10 (i : Nat) : Option (Nat × Nat) := (#[(0, 1), (1, 16), (17, 16), (33, 16), (49, 6), (55, 1), (56, 4)] : Array (Nat × Nat))[i]?
theorem built10 (parts : List (Nat × Value)) : Try.prog.built 32 parts = Instr.fill place10 nz.c parts := by kernel_rfl
theorem built10r (parts : List (Nat × Value)) : Try.prog.built 27 parts = Instr.fill place10 nz.c parts := by kernel_rfl
theorem fill10 {x : N10} (hx : x.Fit) : Instr.fill place10 nz.c [(0, .int .i64 x.op), (1, .agg (bs x.f)), (2, .agg (bs x.t)), (3, .agg (bs x.a)), (4, .agg (bs x.m)), (5, .bool x.h), (6, .agg (bs x.g))] = some x.c := by
  unfold N10.c
  have hf := hx.f
  have ht := hx.t
  have ha := hx.a
  have hm := hx.m
  have hg := hx.g
  rw [fill_seg 0 0 1 (.int .i64 x.op) [.int .i64 x.op] _ rfl rfl rfl rfl rfl rfl,
    fill_seg 1 1 16 (.agg (bs x.f)) (x.f.map B8) _ rfl rfl rfl rfl (by simp [hf]) rfl,
    fill_seg 2 17 16 (.agg (bs x.t)) (x.t.map B8) _ rfl rfl (by simp [segAt, N10.segs, hf]) rfl (by simp [ht]) rfl,
    fill_seg 3 33 16 (.agg (bs x.a)) (x.a.map B8) _ rfl rfl (by simp [segAt, N10.segs, hf, ht]) rfl (by simp [ha]) rfl,
    fill_seg 4 49 6 (.agg (bs x.m)) (x.m.map B8) _ rfl rfl (by simp [segAt, N10.segs, hf, ht, ha]) rfl (by simp [hm]) rfl,
    fill_seg 5 55 1 (.bool x.h) [.bool x.h] _ rfl rfl (by simp [segAt, N10.segs, hf, ht, ha, hm]) rfl rfl rfl,
    fill_seg 6 56 4 (.agg (bs x.g)) (x.g.map B8) _ rfl rfl (by simp [segAt, N10.segs, hf, ht, ha, hm]) rfl (by simp [hg]) rfl]
  rfl
section
variable {o : Oper} {ev : Operand → Value} {w : World} {x : N10}
theorem build10 (hx : x.Fit) (a0 a1 a2 a3 a4 a5 a6 : Operand) (ho : o.op = .build 32 #[(0, a0), (1, a1), (2, a2), (3, a3), (4, a4), (5, a5), (6, a6)]) (h0 : ev a0 = .int .i64 x.op) (h1 : ev a1 = .agg (bs x.f)) (h2 : ev a2 = .agg (bs x.t)) (h3 : ev a3 = .agg (bs x.a)) (h4 : ev a4 = .agg (bs x.m)) (h5 : ev a5 = .bool x.h) (h6 : ev a6 = .agg (bs x.g)) :
    (execOp ev o).run Try.prog w = .ok (.value (.agg x.c)) w := by
  refine exec_build 32 _ _ ho ?_
  rw [built10]
  simp only [List.map_toArray, List.map_cons, List.map_nil, h0, h1, h2, h3, h4, h5, h6]
  exact fill10 hx
theorem build10r (hx : x.Fit) (a0 a1 a2 a3 a4 a5 a6 : Operand) (ho : o.op = .build 27 #[(0, a0), (1, a1), (2, a2), (3, a3), (4, a4), (5, a5), (6, a6)]) (h0 : ev a0 = .int .i64 x.op) (h1 : ev a1 = .agg (bs x.f)) (h2 : ev a2 = .agg (bs x.t)) (h3 : ev a3 = .agg (bs x.a)) (h4 : ev a4 = .agg (bs x.m)) (h5 : ev a5 = .bool x.h) (h6 : ev a6 = .agg (bs x.g)) :
    (execOp ev o).run Try.prog w = .ok (.value (.agg x.c)) w := by
  refine exec_build 27 _ _ ho ?_
  rw [built10r]
  simp only [List.map_toArray, List.map_cons, List.map_nil, h0, h1, h2, h3, h4, h5, h6]
  exact fill10 hx
/-- of a message its number, and whether it has a station's address -/
theorem build10m (K : Int) (b : Bool) (a0 a5 : Operand) (ho : o.op = .build 32 #[(0, a0), (5, a5)]) (h0 : ev a0 = .int .i64 K) (h5 : ev a5 = .bool b) :
    (execOp ev o).run Try.prog w = .ok (.value (.agg (N10.mk K o16 o16 o16 o6 b o4).c)) w := by
  refine exec_build 32 _ _ ho ?_
  rw [built10]
  simp only [List.map_toArray, List.map_cons, List.map_nil, h0, h5]
  unfold N10.c
  rw [fill_seg 0 0 1 (.int .i64 K) [.int .i64 K] _ rfl rfl rfl rfl rfl rfl, fill_seg 5 55 1 (.bool b) [.bool b] _ rfl rfl rfl rfl rfl rfl]
  rfl
theorem build10q (a0 : Operand) (K : Int) (ho : o.op = .build 32 #[(0, a0)]) (h0 : ev a0 = .int .i64 K) :
    (execOp ev o).run Try.prog w = .ok (.value (.agg (N10.mk K o16 o16 o16 o6 false o4).c)) w := by
  refine exec_build 32 _ _ ho ?_
  rw [built10]
  simp only [List.map_toArray, List.map_cons, List.map_nil, h0]
  unfold N10.c
  rw [fill_seg 0 0 1 (.int .i64 K) [.int .i64 K] _ rfl rfl rfl rfl rfl rfl]
  rfl
theorem build10z (ho : o.op = .build 32 #[]) : (execOp ev o).run Try.prog w = .ok (.value (.agg nz.c)) w := by
  refine exec_build 32 _ _ ho ?_
  rw [built10]
  simp only [List.map_toArray, List.map_nil]
  unfold Instr.fill
  rfl
/-- its literals -/
def N10.lits (x : N10) : List Lit := [Lit.int .i64 x.op] ++ (litB x.f ++ (litB x.t ++ (litB x.a ++ (litB x.m ++ ([Lit.bool x.h] ++ litB x.g)))))
theorem lits10 (hx : x.Fit) (hw : (Lit.int .i64 x.op).wf = true) (t : TypeId) (fs : Array Field) (ht : Try.prog.underlying t = some (.struct fs)) (hc : Try.prog.cellsOf t = 60) (hn : fs.all (·.name != "_") = true)
    (hf : fs.toList.map (fun f => (f.type, f.offset)) = [(3, 0), (22, 1), (22, 17), (22, 33), (24, 49), (4, 55), (25, 56)]) : Try.prog.keyLits 4 t x.c.toList = some x.lits := by
  have hsz := N10.size hx
  have h0 : Try.prog.keyLits 3 3 [Value.int .i64 x.op] = some [Lit.int .i64 x.op] := by
    unfold Program.keyLits
    rw [Try.underlying3]
    show (if IntKind.i64 = IntKind.i64 ∧ (Lit.int .i64 x.op).wf = true then some [Lit.int .i64 x.op] else none) = _
    rw [if_pos ⟨rfl, hw⟩]
  have h5 : Try.prog.keyLits 3 4 [Value.bool x.h] = some [Lit.bool x.h] := by
    unfold Program.keyLits
    rw [Try.underlying4]
  have h1 := lits_bytes 1 22 16 Try.underlying22 (by kernel_rfl) x.f hx.f
  have h2 := lits_bytes 1 22 16 Try.underlying22 (by kernel_rfl) x.t hx.t
  have h3 := lits_bytes 1 22 16 Try.underlying22 (by kernel_rfl) x.a hx.a
  have h4 := lits_bytes 1 24 6 Try.underlying24 (by kernel_rfl) x.m hx.m
  have h6 := lits_bytes 1 25 4 Try.underlying25 (by kernel_rfl) x.g hx.g
  have s0 : (x.c.toList.drop 0).take 1 = [Value.int .i64 x.op] := seg_part (L := x.segs) (i := 0) rfl rfl
  have s1 : (x.c.toList.drop 1).take 16 = x.f.map B8 := by
    have := seg_part (L := x.segs) (i := 1) (off := 1) (B := x.f.map B8) rfl rfl
    rw [List.length_map, hx.f] at this
    exact this
  have s2 : (x.c.toList.drop 17).take 16 = x.t.map B8 := by
    have := seg_part (L := x.segs) (i := 2) (B := x.t.map B8) rfl (N10.at2 hx)
    rw [List.length_map, hx.t] at this
    exact this
  have s3 : (x.c.toList.drop 33).take 16 = x.a.map B8 := by
    have := seg_part (L := x.segs) (i := 3) (B := x.a.map B8) rfl (N10.at3 hx)
    rw [List.length_map, hx.a] at this
    exact this
  have s4 : (x.c.toList.drop 49).take 6 = x.m.map B8 := by
    have := seg_part (L := x.segs) (i := 4) (B := x.m.map B8) rfl (N10.at4 hx)
    rw [List.length_map, hx.m] at this
    exact this
  have s5 : (x.c.toList.drop 55).take 1 = [Value.bool x.h] := seg_part (L := x.segs) (i := 5) rfl (N10.at5 hx)
  have s6 : (x.c.toList.drop 56).take 4 = x.g.map B8 := by
    have := seg_part (L := x.segs) (i := 6) (B := x.g.map B8) rfl (N10.at6 hx)
    rw [List.length_map, hx.g] at this
    exact this
  have c16 : Try.prog.cellsOf 22 = 16 := by kernel_rfl
  have c6 : Try.prog.cellsOf 24 = 6 := by kernel_rfl
  have c4 : Try.prog.cellsOf 25 = 4 := by kernel_rfl
  have c1 : Try.prog.cellsOf 3 = 1 := by kernel_rfl
  have c0 : Try.prog.cellsOf 4 = 1 := by kernel_rfl
  unfold Program.keyLits
  rw [ht]
  simp only [Array.length_toList, hsz, hc, hn, and_self, if_true]
  have hmap : ∀ (F : TypeId × Nat → Option (List Lit)), fs.toList.mapM (fun f => F (f.type, f.offset)) = (fs.toList.map (fun f => (f.type, f.offset))).mapM F := fun F => by rw [List.mapM_map]; rfl
  have e := hmap (fun p => Try.prog.keyLits 3 p.1 ((x.c.toList.drop p.2).take (Try.prog.cellsOf p.1)))
  simp only at e
  rw [e, hf]
  simp only [List.mapM_cons, List.mapM_nil, c16, c6, c4, c1, c0, s0, s1, s2, s3, s4, s5, s6, h0, h1, h2, h3, h4, h5, h6, Option.bind_eq_bind, Option.bind_some, Option.pure_def, Option.map_some]
  simp [N10.lits]
theorem same10 (hx : x.Fit) (hw : (Lit.int .i64 x.op).wf = true) (t : TypeId) (fs : Array Field) (ht : Try.prog.underlying t = some (.struct fs)) (hc : Try.prog.cellsOf t = 60) (hn : fs.all (·.name != "_") = true)
    (hf : fs.toList.map (fun f => (f.type, f.offset)) = [(3, 0), (22, 1), (22, 17), (22, 33), (24, 49), (4, 55), (25, 56)]) (hk : Try.prog.keyTypeAt 3 t = true) :
    (Op.equalIn 10000 t (.agg x.c) (.agg x.c)).run Try.prog w = .ok true w := by
  have hl := lits10 hx hw t fs ht hc hn hf
  have hfm : (Value.agg x.c).formed Try.prog t = true := by
    unfold Value.formed
    rw [ht]
    simp [N10.size hx, hc]
  obtain ⟨r, hr, hiff⟩ := run_equalIn_deep 9997 3 t hk w 4 4 (.agg x.c) (.agg x.c) x.lits x.lits hfm hfm hl hl
  rw [hr, hiff.2 rfl]
theorem exec_same10 (x : N10) (hx : x.Fit) (hw : (Lit.int .i64 x.op).wf = true) (p q : Operand) (ho : o.op = .binOp .eql 32 p q 32) (hp : ev p = .agg x.c) (hq : ev q = .agg x.c) :
    (execOp ev o).run Try.prog w = .ok (.value (.bool true)) w := by
  have h := same10 (w := w) hx hw 32 _ Try.underlying32 (by kernel_rfl) (by kernel_rfl) (by kernel_rfl) (by kernel_rfl)
  exact exec_eql _ p q _ _ true (by kernel_rfl) h ho hp hq
theorem exec_same10r (x : N10) (hx : x.Fit) (hw : (Lit.int .i64 x.op).wf = true) (p q : Operand) (ho : o.op = .binOp .eql 27 p q 27) (hp : ev p = .agg x.c) (hq : ev q = .agg x.c) :
    (execOp ev o).run Try.prog w = .ok (.value (.bool true)) w := by
  have h := same10 (w := w) hx hw 27 _ Try.underlying27 (by kernel_rfl) (by kernel_rfl) (by kernel_rfl) (by kernel_rfl)
  exact exec_eql _ p q _ _ true (by kernel_rfl) h ho hp hq
end
end Go.Proofs.Ytkjkmnaiddjjnaa

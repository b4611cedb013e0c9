/- What bridges tell as values: their cells, in memory; parts; built of parts; '==' of any two. No program is run here. -/
import Derived.Test.YtingcoojhfadgaaLG
import Derived.Test.YtingcoojhfadgaaLS
namespace Go.Proofs.Ytingcoojhfadgaa
open Go.RowKit
/-- a word -/
structure B11 where
  r : List UInt8
  b : List UInt8
  cost : Int
  port : Int
  age : Int
  top : Int
  hello : Int
  delay : Int
  ch : Bool
  ack : Bool
/-- its parts -/
def B11.segs (x : B11) : List (List Value) := [x.r.map B8, x.b.map B8, [.int .i64 x.cost], [.int .i64 x.port], [.int .i64 x.age], [.int .i64 x.top], [.int .i64 x.hello], [.int .i64 x.delay], [.bool x.ch], [.bool x.ack]]
/-- its cells -/
def B11.c (x : B11) : Array Value := segC x.segs
/-- its identifiers have eight bytes each -/
structure B11.Fit (x : B11) : Prop where
  r : x.r.length = 8
  b : x.b.length = 8
/-- its numbers are ints -/
structure B11.Wf (x : B11) : Prop where
  cost : (Lit.int .i64 x.cost).wf = true
  port : (Lit.int .i64 x.port).wf = true
  age : (Lit.int .i64 x.age).wf = true
  top : (Lit.int .i64 x.top).wf = true
  hello : (Lit.int .i64 x.hello).wf = true
  delay : (Lit.int .i64 x.delay).wf = true
theorem B11.size {x : B11} (h : x.Fit) : x.c.size = 24 := by
  unfold B11.c segC B11.segs
  simp [h.r, h.b]
theorem B11.one (x : B11) : x.c.all (·.oneCell') = true := by
  unfold B11.c segC B11.segs
  simp [Value.oneCell']
theorem b11_info {x : B11} (h : x.Fit) : (Try.prog.info? 28).map (·.size) = some x.c.size := by rw [B11.size h]; kernel_rfl
theorem r11_info {x : B11} (h : x.Fit) : (Try.prog.info? 24).map (·.size) = some x.c.size := by rw [B11.size h]; kernel_rfl
section
variable {x : B11}
theorem B11.at1 (h : x.Fit) : segAt x.segs 1 = 8 := by simp [segAt, B11.segs, h.r]
theorem B11.at2 (h : x.Fit) : segAt x.segs 2 = 16 := by simp [segAt, B11.segs, h.r, h.b]
theorem B11.at3 (h : x.Fit) : segAt x.segs 3 = 17 := by simp [segAt, B11.segs, h.r, h.b]
theorem B11.at4 (h : x.Fit) : segAt x.segs 4 = 18 := by simp [segAt, B11.segs, h.r, h.b]
theorem B11.at5 (h : x.Fit) : segAt x.segs 5 = 19 := by simp [segAt, B11.segs, h.r, h.b]
theorem B11.at6 (h : x.Fit) : segAt x.segs 6 = 20 := by simp [segAt, B11.segs, h.r, h.b]
theorem B11.at7 (h : x.Fit) : segAt x.segs 7 = 21 := by simp [segAt, B11.segs, h.r, h.b]
theorem B11.at8 (h : x.Fit) : segAt x.segs 8 = 22 := by simp [segAt, B11.segs, h.r, h.b]
theorem B11.at9 (h : x.Fit) : segAt x.segs 9 = 23 := by simp [segAt, B11.segs, h.r, h.b]
variable {w : World} {g : Nat} {t : TypeId}
theorem Has.b_r (h : Has w g t x.c) : w.rangeAt g 0 (x.r.map B8) := Has.segs h 0 rfl rfl
theorem Has.b_b (h : Has w g t x.c) (hx : x.Fit) : w.rangeAt g 8 (x.b.map B8) := Has.segs h 1 rfl (B11.at1 hx)
theorem Has.b_cost (h : Has w g t x.c) (hx : x.Fit) : w.cell? ⟨g, 16, none⟩ = some (.int .i64 x.cost) := Has.seg h 2 rfl (B11.at2 hx)
theorem Has.b_port (h : Has w g t x.c) (hx : x.Fit) : w.cell? ⟨g, 17, none⟩ = some (.int .i64 x.port) := Has.seg h 3 rfl (B11.at3 hx)
theorem Has.b_age (h : Has w g t x.c) (hx : x.Fit) : w.cell? ⟨g, 18, none⟩ = some (.int .i64 x.age) := Has.seg h 4 rfl (B11.at4 hx)
theorem Has.b_top (h : Has w g t x.c) (hx : x.Fit) : w.cell? ⟨g, 19, none⟩ = some (.int .i64 x.top) := Has.seg h 5 rfl (B11.at5 hx)
theorem Has.b_hello (h : Has w g t x.c) (hx : x.Fit) : w.cell? ⟨g, 20, none⟩ = some (.int .i64 x.hello) := Has.seg h 6 rfl (B11.at6 hx)
theorem Has.b_delay (h : Has w g t x.c) (hx : x.Fit) : w.cell? ⟨g, 21, none⟩ = some (.int .i64 x.delay) := Has.seg h 7 rfl (B11.at7 hx)
theorem Has.b_ch (h : Has w g t x.c) (hx : x.Fit) : w.cell? ⟨g, 22, none⟩ = some (.bool x.ch) := Has.seg h 8 rfl (B11.at8 hx)
theorem Has.b_ack (h : Has w g t x.c) (hx : x.Fit) : w.cell? ⟨g, 23, none⟩ = some (.bool x.ack) := Has.seg h 9 rfl (B11.at9 hx)
variable {o : Oper} {ev : Operand → Value}
theorem exec11_r (h : Has w g t x.c) (hx : x.Fit) (p : Operand) (ho : o.op = .load 26 p) (he : ev p = .pointer (some ⟨g, 0, none⟩)) : (execOp ev o).run Try.prog w = .ok (.value (.agg (bs x.r))) w :=
  exec_seg 26 p h 0 rfl rfl Try.underlying26 rfl (bl_get x.r 8 hx.r 26 (by kernel_rfl)) ho he
theorem exec11r_r (h : Has w g t x.c) (hx : x.Fit) (p : Operand) (ho : o.op = .load 22 p) (he : ev p = .pointer (some ⟨g, 0, none⟩)) : (execOp ev o).run Try.prog w = .ok (.value (.agg (bs x.r))) w :=
  exec_seg 22 p h 0 rfl rfl Try.underlying22 rfl (bl_get x.r 8 hx.r 22 (by kernel_rfl)) ho he
theorem exec11_b (h : Has w g t x.c) (hx : x.Fit) (p : Operand) (ho : o.op = .load 26 p) (he : ev p = .pointer (some ⟨g, 8, none⟩)) : (execOp ev o).run Try.prog w = .ok (.value (.agg (bs x.b))) w :=
  exec_seg 26 p h 1 rfl (B11.at1 hx) Try.underlying26 rfl (bl_get x.b 8 hx.b 26 (by kernel_rfl)) ho he
theorem exec11r_b (h : Has w g t x.c) (hx : x.Fit) (p : Operand) (ho : o.op = .load 22 p) (he : ev p = .pointer (some ⟨g, 8, none⟩)) : (execOp ev o).run Try.prog w = .ok (.value (.agg (bs x.b))) w :=
  exec_seg 22 p h 1 rfl (B11.at1 hx) Try.underlying22 rfl (bl_get x.b 8 hx.b 22 (by kernel_rfl)) ho he
end
/-- eight zero bytes -/
def o8 : List UInt8 := [0, 0, 0, 0, 0, 0, 0, 0]
abbrev bz : B11 := ⟨o8, o8, 0, 0, 0, 0, 0, 0, false, false⟩
theorem bz_fit : bz.Fit := ⟨rfl, rfl⟩
theorem bz_wf : bz.Wf := ⟨rfl, rfl, rfl, rfl, rfl, rfl⟩
/-- where a part lies, and how many cells it has -/
def place11 (i : Nat) : Option (Nat × Nat) := (#[(0, 8), (8, 8), (16, 1), (17, 1), (18, 1), (19, 1), (20, 1), (21, 1), (22, 1), (23, 1)] : Array (Nat × Nat))[i]?
theorem built11 (parts : List (Nat × Value)) : Try.prog.built 28 parts = Instr.fill place11 bz.c parts := by kernel_rfl
theorem built11r (parts : List (Nat × Value)) : Try.prog.built 24 parts = Instr.fill place11 bz.c parts := by kernel_rfl
theorem fill11 {x : B11} (hx : x.Fit) : Instr.fill place11 bz.c [(0, .agg (bs x.r)), (1, .agg (bs x.b)), (2, .int .i64 x.cost), (3, .int .i64 x.port), (4, .int .i64 x.age), (5, .int .i64 x.top), (6, .int .i64 x.hello), (7, .int .i64 x.delay), (8, .bool x.ch), (9, .bool x.ack)] = some x.c := by
  unfold B11.c
  have hr := hx.r
  have hb := hx.b
  rw [fill_seg 0 0 8 (.agg (bs x.r)) (x.r.map B8) _ rfl rfl rfl rfl (by simp [hr]) rfl,
    fill_seg 1 8 8 (.agg (bs x.b)) (x.b.map B8) _ rfl rfl (by simp [segAt, B11.segs, hr]) rfl (by simp [hb]) rfl,
    fill_seg 2 16 1 (.int .i64 x.cost) [.int .i64 x.cost] _ rfl rfl (by simp [segAt, B11.segs, hr, hb]) rfl rfl rfl,
    fill_seg 3 17 1 (.int .i64 x.port) [.int .i64 x.port] _ rfl rfl (by simp [segAt, B11.segs, hr, hb]) rfl rfl rfl,
    fill_seg 4 18 1 (.int .i64 x.age) [.int .i64 x.age] _ rfl rfl (by simp [segAt, B11.segs, hr, hb]) rfl rfl rfl,
    fill_seg 5 19 1 (.int .i64 x.top) [.int .i64 x.top] _ rfl rfl (by simp [segAt, B11.segs, hr, hb]) rfl rfl rfl,
    fill_seg 6 20 1 (.int .i64 x.hello) [.int .i64 x.hello] _ rfl rfl (by simp [segAt, B11.segs, hr, hb]) rfl rfl rfl,
    fill_seg 7 21 1 (.int .i64 x.delay) [.int .i64 x.delay] _ rfl rfl (by simp [segAt, B11.segs, hr, hb]) rfl rfl rfl,
    fill_seg 8 22 1 (.bool x.ch) [.bool x.ch] _ rfl rfl (by simp [segAt, B11.segs, hr, hb]) rfl rfl rfl,
    fill_seg 9 23 1 (.bool x.ack) [.bool x.ack] _ rfl rfl (by simp [segAt, B11.segs, hr, hb]) rfl rfl rfl]
  rfl
section
variable {o : Oper} {ev : Operand → Value} {w : World} {x : B11}
theorem build11 (hx : x.Fit) (a0 a1 a2 a3 a4 a5 a6 a7 a8 a9 : Operand) (ho : o.op = .build 28 #[(0, a0), (1, a1), (2, a2), (3, a3), (4, a4), (5, a5), (6, a6), (7, a7), (8, a8), (9, a9)]) (h0 : ev a0 = .agg (bs x.r)) (h1 : ev a1 = .agg (bs x.b)) (h2 : ev a2 = .int .i64 x.cost) (h3 : ev a3 = .int .i64 x.port) (h4 : ev a4 = .int .i64 x.age) (h5 : ev a5 = .int .i64 x.top) (h6 : ev a6 = .int .i64 x.hello) (h7 : ev a7 = .int .i64 x.delay) (h8 : ev a8 = .bool x.ch) (h9 : ev a9 = .bool x.ack) :
    (execOp ev o).run Try.prog w = .ok (.value (.agg x.c)) w := by
  refine exec_build 28 _ _ ho ?_
  rw [built11]
  simp only [List.map_toArray, List.map_cons, List.map_nil, h0, h1, h2, h3, h4, h5, h6, h7, h8, h9]
  exact fill11 hx
theorem build11z (ho : o.op = .build 28 #[]) : (execOp ev o).run Try.prog w = .ok (.value (.agg bz.c)) w := by
  refine exec_build 28 _ _ ho ?_
  rw [built11]
  simp only [List.map_toArray, List.map_nil]
  unfold Instr.fill
  rfl
theorem build11r (hx : x.Fit) (a0 a1 a2 a3 a4 a5 a6 a7 a8 a9 : Operand) (ho : o.op = .build 24 #[(0, a0), (1, a1), (2, a2), (3, a3), (4, a4), (5, a5), (6, a6), (7, a7), (8, a8), (9, a9)]) (h0 : ev a0 = .agg (bs x.r)) (h1 : ev a1 = .agg (bs x.b)) (h2 : ev a2 = .int .i64 x.cost) (h3 : ev a3 = .int .i64 x.port) (h4 : ev a4 = .int .i64 x.age) (h5 : ev a5 = .int .i64 x.top) (h6 : ev a6 = .int .i64 x.hello) (h7 : ev a7 = .int .i64 x.delay) (h8 : ev a8 = .bool x.ch) (h9 : ev a9 = .bool x.ack) :
    (execOp ev o).run Try.prog w = .ok (.value (.agg x.c)) w := by
  refine exec_build 24 _ _ ho ?_
  rw [built11r]
  simp only [List.map_toArray, List.map_cons, List.map_nil, h0, h1, h2, h3, h4, h5, h6, h7, h8, h9]
  exact fill11 hx
theorem build11rz (ho : o.op = .build 24 #[]) : (execOp ev o).run Try.prog w = .ok (.value (.agg bz.c)) w := by
  refine exec_build 24 _ _ ho ?_
  rw [built11r]
  simp only [List.map_toArray, List.map_nil]
  unfold Instr.fill
  rfl
/-- of its flags alone -/
theorem build11f (b c : Bool) (a8 a9 : Operand) (ho : o.op = .build 28 #[(8, a8), (9, a9)]) (h8 : ev a8 = .bool b) (h9 : ev a9 = .bool c) :
    (execOp ev o).run Try.prog w = .ok (.value (.agg (B11.mk o8 o8 0 0 0 0 0 0 b c).c)) w := by
  refine exec_build 28 _ _ ho ?_
  rw [built11]
  simp only [List.map_toArray, List.map_cons, List.map_nil, h8, h9]
  unfold B11.c
  rw [fill_seg 8 22 1 (.bool b) [.bool b] _ rfl rfl rfl rfl rfl rfl, fill_seg 9 23 1 (.bool c) [.bool c] _ rfl rfl rfl rfl rfl rfl]
  rfl
/-- its literals -/
def B11.lits (x : B11) : List Lit := litB x.r ++ (litB x.b ++ [Lit.int .i64 x.cost, Lit.int .i64 x.port, Lit.int .i64 x.age, Lit.int .i64 x.top, Lit.int .i64 x.hello, Lit.int .i64 x.delay, Lit.bool x.ch, Lit.bool x.ack])
theorem lits_inj {x y : B11} (hx : x.Fit) (hy : y.Fit) : x.lits = y.lits ↔ x = y := by
  constructor
  · intro h
    unfold B11.lits at h
    have h1 := List.append_inj h (by simp [litB, hx.r, hy.r])
    have h2 := List.append_inj h1.2 (by simp [litB, hx.b, hy.b])
    have e1 := litB_inj h1.1
    have e2 := litB_inj h2.1
    have e3 := h2.2
    simp only [List.cons.injEq, Lit.int.injEq, Lit.bool.injEq, true_and, and_true] at e3
    obtain ⟨c1, c2, c3, c4, c5, c6, c7, c8⟩ := e3
    cases x
    cases y
    simp_all
  · intro h
    rw [h]
theorem lit_int (d : Nat) (n : Int) (h : (Lit.int .i64 n).wf = true) : Try.prog.keyLits (d + 1) 3 [Value.int .i64 n] = some [Lit.int .i64 n] := by
  unfold Program.keyLits
  rw [Try.underlying3]
  show (if IntKind.i64 = IntKind.i64 ∧ (Lit.int .i64 n).wf = true then some [Lit.int .i64 n] else none) = _
  rw [if_pos ⟨rfl, h⟩]
theorem lit_bool (d : Nat) (b : Bool) : Try.prog.keyLits (d + 1) 4 [Value.bool b] = some [Lit.bool b] := by
  unfold Program.keyLits
  rw [Try.underlying4]
theorem lits11 (hx : x.Fit) (hw : x.Wf) (t T : TypeId) (fs : Array Field) (ht : Try.prog.underlying t = some (.struct fs)) (hT : Try.prog.underlying T = some (.array 8 5)) (hc8 : Try.prog.cellsOf T = 8) (hc : Try.prog.cellsOf t = 24) (hn : fs.all (·.name != "_") = true)
    (hf : fs.toList.map (fun f => (f.type, f.offset)) = [(T, 0), (T, 8), (3, 16), (3, 17), (3, 18), (3, 19), (3, 20), (3, 21), (4, 22), (4, 23)]) : Try.prog.keyLits 4 t x.c.toList = some x.lits := by
  have hsz := B11.size hx
  have h0 := lits_bytes 1 T 8 hT hc8 x.r hx.r
  have h1 := lits_bytes 1 T 8 hT hc8 x.b hx.b
  have h2 := lit_int 2 x.cost hw.cost
  have h3 := lit_int 2 x.port hw.port
  have h4 := lit_int 2 x.age hw.age
  have h5 := lit_int 2 x.top hw.top
  have h6 := lit_int 2 x.hello hw.hello
  have h7 := lit_int 2 x.delay hw.delay
  have h8 := lit_bool 2 x.ch
  have h9 := lit_bool 2 x.ack
  have s0 : (x.c.toList.drop 0).take 8 = x.r.map B8 := by
    have := seg_part (L := x.segs) (i := 0) (off := 0) (B := x.r.map B8) rfl rfl
    rw [List.length_map, hx.r] at this
    exact this
  have s1 : (x.c.toList.drop 8).take 8 = x.b.map B8 := by
    have := seg_part (L := x.segs) (i := 1) (B := x.b.map B8) rfl (B11.at1 hx)
    rw [List.length_map, hx.b] at this
    exact this
  have s2 : (x.c.toList.drop 16).take 1 = [Value.int .i64 x.cost] := seg_part (L := x.segs) (i := 2) rfl (B11.at2 hx)
  have s3 : (x.c.toList.drop 17).take 1 = [Value.int .i64 x.port] := seg_part (L := x.segs) (i := 3) rfl (B11.at3 hx)
  have s4 : (x.c.toList.drop 18).take 1 = [Value.int .i64 x.age] := seg_part (L := x.segs) (i := 4) rfl (B11.at4 hx)
  have s5 : (x.c.toList.drop 19).take 1 = [Value.int .i64 x.top] := seg_part (L := x.segs) (i := 5) rfl (B11.at5 hx)
  have s6 : (x.c.toList.drop 20).take 1 = [Value.int .i64 x.hello] := seg_part (L := x.segs) (i := 6) rfl (B11.at6 hx)
  have s7 : (x.c.toList.drop 21).take 1 = [Value.int .i64 x.delay] := seg_part (L := x.segs) (i := 7) rfl (B11.at7 hx)
  have s8 : (x.c.toList.drop 22).take 1 = [Value.bool x.ch] := seg_part (L := x.segs) (i := 8) rfl (B11.at8 hx)
  have s9 : (x.c.toList.drop 23).take 1 = [Value.bool x.ack] := seg_part (L := x.segs) (i := 9) rfl (B11.at9 hx)
  have c1 : Try.prog.cellsOf 3 = 1 := by kernel_rfl
  have c0 : Try.prog.cellsOf 4 = 1 := by kernel_rfl
  unfold Program.keyLits
  rw [ht]
  simp only [Array.length_toList, hsz, hc, hn, and_self, if_true]
  have hmap : ∀ (F : TypeId × Nat → Option (List Lit)), fs.toList.mapM (fun f => F (f.type, f.offset)) = (fs.toList.map (fun f => (f.type, f.offset))).mapM F := fun F => by rw [List.mapM_map]; rfl
  have e := hmap (fun p => Try.prog.keyLits 3 p.1 ((x.c.toList.drop p.2).take (Try.prog.cellsOf p.1)))
  simp only at e
  rw [e, hf]
  simp only [List.mapM_cons, List.mapM_nil, hc8, c1, c0, s0, s1, s2, s3, s4, s5, s6, s7, s8, s9, h0, h1, h2, h3, h4, h5, h6, h7, h8, h9, Option.bind_eq_bind, Option.bind_some, Option.pure_def, Option.map_some]
  simp [B11.lits]
theorem same11 {y : B11} (hx : x.Fit) (hw : x.Wf) (hy : y.Fit) (hv : y.Wf) (t T : TypeId) (fs : Array Field) (ht : Try.prog.underlying t = some (.struct fs)) (hT : Try.prog.underlying T = some (.array 8 5)) (hc8 : Try.prog.cellsOf T = 8) (hc : Try.prog.cellsOf t = 24) (hn : fs.all (·.name != "_") = true)
    (hf : fs.toList.map (fun f => (f.type, f.offset)) = [(T, 0), (T, 8), (3, 16), (3, 17), (3, 18), (3, 19), (3, 20), (3, 21), (4, 22), (4, 23)]) (hk : Try.prog.keyTypeAt 3 t = true) (q : Bool) (hq : q = true ↔ x = y) :
    (Op.equalIn 10000 t (.agg x.c) (.agg y.c)).run Try.prog w = .ok q w := by
  have hl := lits11 hx hw t T fs ht hT hc8 hc hn hf
  have hl2 := lits11 hy hv t T fs ht hT hc8 hc hn hf
  have hfm : ∀ {z : B11}, z.Fit → (Value.agg z.c).formed Try.prog t = true := fun {z} hz => by
    unfold Value.formed
    rw [ht]
    simp [B11.size hz, hc]
  obtain ⟨r, hr, hiff⟩ := run_equalIn_deep 9997 3 t hk w 4 4 (.agg x.c) (.agg y.c) x.lits y.lits (hfm hx) (hfm hy) hl hl2
  rw [hr]
  have : r = q := by
    rw [Bool.eq_iff_iff, hiff, hq]
    exact lits_inj hx hy
  rw [this]
theorem exec_same11 (x y : B11) (hx : x.Fit) (hw : x.Wf) (hy : y.Fit) (hv : y.Wf) (q : Bool) (hq : q = true ↔ x = y) (a b : Operand) (ho : o.op = .binOp .eql 28 a b 28) (hp : ev a = .agg x.c) (hb : ev b = .agg y.c) :
    (execOp ev o).run Try.prog w = .ok (.value (.bool q)) w := by
  have h := same11 (w := w) hx hw hy hv 28 26 _ Try.underlying28 Try.underlying26 (by kernel_rfl) (by kernel_rfl) (by kernel_rfl) (by kernel_rfl) (by kernel_rfl) q hq
  exact exec_eql _ a b _ _ q (by kernel_rfl) h ho hp hb
theorem exec_same11r (x y : B11) (hx : x.Fit) (hw : x.Wf) (hy : y.Fit) (hv : y.Wf) (q : Bool) (hq : q = true ↔ x = y) (a b : Operand) (ho : o.op = .binOp .eql 24 a b 24) (hp : ev a = .agg x.c) (hb : ev b = .agg y.c) :
    (execOp ev o).run Try.prog w = .ok (.value (.bool q)) w := by
  have h := same11 (w := w) hx hw hy hv 24 22 _ Try.underlying24 Try.underlying22 (by kernel_rfl) (by kernel_rfl) (by kernel_rfl) (by kernel_rfl) (by kernel_rfl) q hq
  exact exec_eql _ a b _ _ q (by kernel_rfl) h ho hp hb
theorem exec_other11r (x y : B11) (hx : x.Fit) (hw : x.Wf) (hy : y.Fit) (hv : y.Wf) (q : Bool) (hq : q = true ↔ x = y) (a b : Operand) (ho : o.op = .binOp .neq 24 a b 24) (hp : ev a = .agg x.c) (hb : ev b = .agg y.c) :
    (execOp ev o).run Try.prog w = .ok (.value (.bool (!q))) w := by
  have h := same11 (w := w) hx hw hy hv 24 22 _ Try.underlying24 Try.underlying22 (by kernel_rfl) (by kernel_rfl) (by kernel_rfl) (by kernel_rfl) (by kernel_rfl) q hq
  exact exec_neq _ a b _ _ q (by kernel_rfl) h ho hp hb
end
end Go.Proofs.Ytingcoojhfadgaa

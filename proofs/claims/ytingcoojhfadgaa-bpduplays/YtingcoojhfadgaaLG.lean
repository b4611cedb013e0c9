/- What layers with structs and frames share: results, parts of frames, '==' of bytes. No program is run here. -/
import Derived.Test.YtingcoojhfadgaaWC
import Derived.Test.YtingcoojhfadgaaJ
namespace Go.Proofs.Ytingcoojhfadgaa
open Go.RowKit
/-- what two results read as, the first of which lies in a row -/
theorem results_row_reg {P : Program} {fn : Func} {p u : Tmp} {ty : TypeId} (h : fn.results = #[.cell p ty, .tmp u]) (tmps : Array Value) (w : World) (g : Nat) (t : TypeId) (cs : Array Value) (fr : Nat × Nat) (d : TypeDesc)
    (hp : tmps.getD p undef = .pointer (some ⟨g, 0, none⟩)) (hg : w.heap[g]? = some (.cells cs t fr))
    (hu : P.underlying ty = some d) (hd : (match d with | .struct _ | .array _ _ => true | _ => false) = true) (hi : (P.info? ty).map (·.size) = some cs.size)
    (v : Value) (hq : tmps.getD u undef = v) :
    (results fn tmps).run P w = .ok (.tuple #[.agg cs, v]) w := by
  have hp' : tmps[p]?.getD undef = .pointer (some ⟨g, 0, none⟩) := by simpa using hp
  have hq' : tmps[u]?.getD undef = v := by simpa using hq
  simp [results, h, hp', hq', asAddr, run_loadVar_row w g t ty cs fr d hg hu hd hi]
theorem bl_get (l : List UInt8) (n : Nat) (h : l.length = n) (ty : TypeId) (hi : (Try.prog.info? ty).map (·.size) = some n) : (Try.prog.info? ty).map (·.size) = some (l.map B8).length := by
  rw [List.length_map, h]; exact hi
theorem same_ints (d : Nat) (t : TypeId) (n : Nat) (ht : Try.prog.underlying t = some (.array n 5)) (l : List UInt8) (hl : l.length = n) (w : World) : (Op.equalIn (d + 2) t (.agg (bs l)) (.agg (bs l))).run Try.prog w = .ok true w := by
  have h := eq_ints (P := Try.prog) w d t 5 .u8 n ht Try.underlying5 (by kernel_rfl) (l.map fun x => (x.toNat : Int)) (l.map fun x => (x.toNat : Int)) (by simpa using hl) (by simpa using hl)
  rw [beq_self_eq_true] at h
  simp only [List.map_map] at h
  exact h
theorem cat_more (l : List UInt8) (more : ByteArray) : (⟨l.toArray⟩ : ByteArray) ++ more = ⟨(l ++ more.data.toList).toArray⟩ := by
  have := cat_str l more.data.toList
  rw [str_of] at this
  exact this
/-- a frame's cells -/
def fc (D S : List UInt8) (K : Int) (B : ByteArray) : Array Value := ((D ++ S).map B8 ++ [Value.int .i64 K, Value.string B]).toArray
theorem fc_size {D S : List UInt8} (hD : D.length = 6) (hS : S.length = 6) (K : Int) (B : ByteArray) : (fc D S K B).size = 14 := by
  unfold fc
  simp [hD, hS]
theorem fc_one (D S : List UInt8) (K : Int) (B : ByteArray) : (fc D S K B).all (·.oneCell') = true := by
  unfold fc
  simp [Value.oneCell']
abbrev fz : Array Value := fc o6 o6 0 ⟨#[]⟩
theorem mac_info {l : List UInt8} (h : l.length = 6) : (Try.prog.info? 46).map (·.size) = some (bs l).size := by rw [bs_size, h]; kernel_rfl
section
variable {o : Oper} {ev : Operand → Value} {w : World} {g : Nat} {t : TypeId} {D S : List UInt8} {K : Int} {B : ByteArray}
theorem exec_same_mac (l : List UInt8) (hl : l.length = 6) (p q : Operand) (ho : o.op = .binOp .eql 46 p q 46) (hp : ev p = .agg (bs l)) (hq : ev q = .agg (bs l)) :
    (execOp ev o).run Try.prog w = .ok (.value (.bool true)) w := by
  have h := same_ints 9998 46 6 Try.underlying46 l hl w
  unfold execOp
  simp only [ho, hp, hq]
  go_simp
theorem exec_fd (h : Has w g t (fc D S K B)) (hD : D.length = 6) (p : Operand) (ho : o.op = .load 46 p) (he : ev p = .pointer (some ⟨g, 0, none⟩)) : (execOp ev o).run Try.prog w = .ok (.value (.agg (bs D))) w :=
  exec_load_part 46 p g 0 (D.map B8) h (by
    show (((D ++ S).map B8 ++ _).drop 0).take _ = _
    rw [List.drop_zero, List.map_append, List.append_assoc, List.take_left]) Try.underlying46 rfl (bl_get D 6 hD 46 (by kernel_rfl)) ho he
theorem exec_fs (h : Has w g t (fc D S K B)) (hD : D.length = 6) (hS : S.length = 6) (p : Operand) (ho : o.op = .load 46 p) (he : ev p = .pointer (some ⟨g, 6, none⟩)) : (execOp ev o).run Try.prog w = .ok (.value (.agg (bs S))) w :=
  exec_load_part 46 p g 6 (S.map B8) h (by
    have hl : (D.map B8).length = 6 := by simp [hD]
    show (((D ++ S).map B8 ++ _).drop 6).take _ = _
    rw [List.map_append, List.append_assoc, ← hl, List.drop_left, List.take_left]) Try.underlying46 rfl (bl_get S 6 hS 46 (by kernel_rfl)) ho he
theorem Has.ft (h : Has w g t (fc D S K B)) (hD : D.length = 6) (hS : S.length = 6) : w.cell? ⟨g, 12, none⟩ = some (.int .i64 K) := by
  have hl : ((D ++ S).map B8).length = 12 := by simp [hD, hS]
  rw [h.cell]
  unfold fc
  rw [List.getElem?_toArray, List.getElem?_append_right (by omega), hl]; rfl
theorem Has.fy (h : Has w g t (fc D S K B)) (hD : D.length = 6) (hS : S.length = 6) : w.cell? ⟨g, 13, none⟩ = some (.string B) := by
  have hl : ((D ++ S).map B8).length = 12 := by simp [hD, hS]
  rw [h.cell]
  unfold fc
  rw [List.getElem?_toArray, List.getElem?_append_right (by omega), hl]; rfl
end
end Go.Proofs.Ytingcoojhfadgaa

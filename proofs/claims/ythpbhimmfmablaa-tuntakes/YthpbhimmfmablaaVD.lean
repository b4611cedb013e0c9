/- Frames in memory: what is copied and stored into them. -/
import Derived.Test.YthpbhimmfmablaaVC
import Derived.Test.YthpbhimmfmablaaHG2
import Derived.Deep.RegionHeld3
namespace Go.Proofs.Ythpbhimmfmablaa
open Go.RowKit
theorem setB_app (l : List Value) (b : List Value) (i n : Nat) (v : Value) (h : l.length = n) : (l ++ b).toArray.setIfInBounds (n + i) v = (l ++ b.set i v).toArray := by
  subst h
  rw [List.setIfInBounds_toArray, List.set_append_right _ _ (by omega), Nat.add_sub_cancel_left]
theorem head_len {x : E8} (h : x.Six) : ((x.d ++ x.s).map B8).length = 12 := by simp [h.d, h.s]
theorem E8.set_k {x : E8} (h : x.Six) (k : Int) : x.c.setIfInBounds 12 (.int .i64 k) = E8.c { x with k := k } := setB_app _ _ 0 12 _ (head_len h)
theorem E8.set_b {x : E8} (h : x.Six) (b : ByteArray) : x.c.setIfInBounds 13 (.string b) = E8.c { x with b := b } := setB_app _ _ 1 12 _ (head_len h)
theorem E8.set_v {x : E8} (h : x.Six) (v : Int) : x.c.setIfInBounds 14 (.int .i64 v) = E8.c { x with v := v } := setB_app _ _ 2 12 _ (head_len h)
theorem E8.set_p {x : E8} (h : x.Six) (p : Int) : x.c.setIfInBounds 15 (.int .i64 p) = E8.c { x with p := p } := setB_app _ _ 3 12 _ (head_len h)
theorem E8.set_d {x : E8} (h : x.Six) (l : List UInt8) : (x.c.toList.take 0 ++ Lib.byteCells l ++ x.c.toList.drop (0 + 6)).toArray = E8.c { x with d := l } := by
  have hl : (x.d.map B8).length = 6 := by simp [h.d]
  unfold E8.c
  rw [List.take_zero, List.nil_append, Nat.zero_add]
  show (Lib.byteCells l ++ List.drop 6 ((x.d ++ x.s).map B8 ++ _)).toArray = _
  rw [List.map_append, List.append_assoc, List.drop_append_of_le_length (by omega), List.drop_of_length_le (by omega), List.nil_append, List.map_append, List.append_assoc]
  rfl
theorem E8.set_s {x : E8} (h : x.Six) (l : List UInt8) : (x.c.toList.take 6 ++ Lib.byteCells l ++ x.c.toList.drop (6 + 6)).toArray = E8.c { x with s := l } := by
  have hl : (x.d.map B8).length = 6 := by simp [h.d]
  have hl2 : (x.s.map B8).length = 6 := by simp [h.s]
  unfold E8.c
  show (List.take 6 ((x.d ++ x.s).map B8 ++ _) ++ Lib.byteCells l ++ List.drop (6 + 6) ((x.d ++ x.s).map B8 ++ _)).toArray = _
  rw [List.drop_append_of_le_length (by simp [h.d, h.s]), List.drop_of_length_le (by simp [h.d, h.s]), List.nil_append, List.map_append, List.append_assoc (x.d.map B8), List.take_append_of_le_length (by omega), List.take_of_length_le (by omega), List.map_append, List.append_assoc, List.append_assoc]
  rfl
/-- copy into a row, of a text that has as many bytes at least -/
theorem copy_in {w : World} {g : Nat} {t : TypeId} {cur : Array Value} (h : Has w g t cur) (o n : Nat) (hfit : o + n ≤ cur.size) (s : ByteArray) (hs : n ≤ s.size) :
    (Builtin.copy_ #[60, 9] 3 #[.slice (some ⟨g, o, none⟩) n n, .string s]).run Try.prog w = .ok (.int .i64 (n : Int)) (w.setRow g (cur.toList.take o ++ Lib.byteCells (s.data.toList.take n) ++ cur.toList.drop (o + n)).toArray) := by
  have hl32 : (s.data.toList.take n).length = n := by rw [List.length_take, len_list]; omega
  have hlen : (Lib.byteCells (s.data.toList.take n)).length = n := by unfold Lib.byteCells; rw [List.length_map, hl32]
  have hst := run_storeCells_at Try.prog g o t (Lib.byteCells (s.data.toList.take n)) 0 cur w h (by rw [hlen]; omega) (Lib.byteCells_one _)
  have hmin : Nat.min s.size n = n := Nat.min_eq_right hs
  have htk : List.take n (List.map (fun b : UInt8 => Value.int IntKind.u8 (b.toNat : Int)) s.data.toList) = Lib.byteCells (s.data.toList.take n) := by
    rw [← List.map_take]; rfl
  rw [hlen] at hst
  simp only [Nat.add_zero] at hst
  have hs1 : (Try.prog.info? 5).map (·.size) = some 1 := by kernel_rfl
  cases hq : Try.prog.info? 5 with
  | none => simp [hq] at hs1
  | some i =>
    simp [Builtin.copy_, run_underlying Try.underlying60, Builtin.lenOf, Builtin.firstCells, sizeOf, typeInfo, hq, hmin]
    rw [htk, hst]
    simp only [Result.andThen, List.append_assoc]
    rfl
/-- six zero bytes -/
def o6 : List UInt8 := [0, 0, 0, 0, 0, 0]
/-- zero frames: what a new block holds; what parsed begins with -/
abbrev ez : E8 := ⟨o6, o6, 0, ⟨#[]⟩, 0, 0⟩
abbrev e0 : E8 := ⟨o6, o6, 0, ⟨#[]⟩, -1, 0⟩
theorem ez_six : ez.Six := ⟨rfl, rfl⟩
theorem e0_six : e0.Six := ⟨rfl, rfl⟩
/-- what is asked of a panic, whatever the frame holds by then -/
def FreePanic (Q : Exit → Act → World → Prop) : Exit → Act → World → Prop
  | .panic c, a, w => ∀ a' : Act, a'.defers = a.defers → Q (.panic c) a' w
  | e, a, w => Q e a w
theorem FreePanic.imp {Q : Exit → Act → World → Prop} : ∀ (e : Exit) (a : Act) (w : World), FreePanic Q e a w → Q e a w := fun e a w h => by
  cases e <;> first | exact h | exact h a rfl
theorem wp_region_freePanic {P : Program} {id : Nat} {ops : Array Oper} {b : Bool} {Q : Exit → Act → World → Prop} {a : Act} {w : World} (h : (Code.region id ops b).wp P (FreePanic Q) a w) : (Code.region id ops b).wp P Q a w :=
  Code.wp_mono FreePanic.imp h
theorem FreePanic.normal {Q : Exit → Act → World → Prop} {a : Act} {w : World} (h : Q .normal a w) : FreePanic Q .normal a w := h
/-- a call alone may come up: it returns, or panics -/
theorem callP {P : Program} {md : Region.Mode} {ops : Array Oper} {Q : Exit → Act → World → Prop} {fuel : Nat} {listed : Array Bool} {a : Act} {w : World} (i d f : Nat) (args : Array Value) (o : Oper) (hr : Region.ready md ops listed = [i]) (hi : ops[i]? = some o)
    (hw : Region.wanted o (yielded ops a.tmps) = true) (hd : o.dst = some d) (hex : (execOp a.eval o).run P w = .ok (.enter f args) w) {R : Ending → World → Prop} (hc : Calls P f args w R)
    (hR : ∀ e w', R e w' → (∃ v, e = .returned v ∧ wpAny P md ops Q fuel (listed.setIfInBounds i true) (a.put (some d) v) w') ∨ (∃ ch, e = .panicked ch ∧ Q (.panic ch) a w')) : wpAny P md ops Q (fuel + 1) listed a w := by
  refine ⟨fun h => (by rw [hr] at h; cases h), fun j hm => ?_⟩
  rw [hr] at hm
  simp only [List.mem_singleton] at hm
  subst hm
  unfold wpOp
  simp only [hi, hw, if_true]
  left
  unfold Oper.wp
  rw [hex]
  refine Calls.mono hc (fun e w' hRe => ?_)
  rcases hR e w' hRe with ⟨v, rfl, h1⟩ | ⟨ch, rfl, h1⟩
  · rw [hd]
    exact h1
  · exact h1
end Go.Proofs.Ythpbhimmfmablaa

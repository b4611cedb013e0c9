/- Two arrays of integers are the same just if their elements are: the model's own comparison, run. -/
import Derived.Test.YthpbhimmfmablaaF
import Derived.ChangeKeysEq
namespace Go.Proofs.Ythpbhimmfmablaa
open Go.RowKit
theorem map_inj {α β : Type} (f : α → β) (hf : ∀ a b, f a = f b → a = b) : ∀ (x y : List α), x.map f = y.map f → x = y
  | [], [], _ => rfl
  | [], _ :: _, h => by simp at h
  | _ :: _, [], h => by simp at h
  | a :: x, b :: y, h => by
    simp only [List.map_cons, List.cons.injEq] at h
    rw [hf _ _ h.1, map_inj f hf x y h.2]
section
variable {P : Program} (w : World)
theorem eqItems_ints (dd : Nat) (e : TypeId) (k : IntKind) (he : P.underlying e = some (.int k)) (la lb : List Int) : ∀ (is : List Nat), (∀ i ∈ is, i < la.length ∧ i < lb.length) →
    (Op.eqItems (dd + 1) e 1 (la.map (Value.int k)).toArray (lb.map (Value.int k)).toArray is).run P w = .ok (is.all fun i => la.getD i 0 == lb.getD i 0) w
  | [], _ => by simp [Op.eqItems]
  | i :: is, h => by
    obtain ⟨h1, h2⟩ := h i (by simp)
    have ih := eqItems_ints dd e k he la lb is (fun j hj => h j (by simp [hj]))
    have hp : P.plainKey e = true := by simp [Program.plainKey, he]
    have p1 : (part e (la.map (Value.int k)).toArray (i * 1)).run P w = .ok (.int k (la.getD i 0)) w := run_part_plain w hp (by simp [h1])
    have p2 : (part e (lb.map (Value.int k)).toArray (i * 1)).run P w = .ok (.int k (lb.getD i 0)) w := run_part_plain w hp (by simp [h2])
    have p3 : (Op.equalIn (dd + 1) e (.int k (la.getD i 0)) (.int k (lb.getD i 0))).run P w = .ok (la.getD i 0 == lb.getD i 0) w := run_equalIn_int w dd e k k _ _ he
    simp only [Op.eqItems, Sem.run_bind, p1, p2, p3, Result.andThen_ok, List.all_cons]
    cases hq : (la.getD i 0 == lb.getD i 0)
    · simp
    · simpa using ih
theorem all_range_eq (la lb : List Int) (n : Nat) (ha : la.length = n) (hb : lb.length = n) : ((List.range n).all fun i => la.getD i 0 == lb.getD i 0) = (la == lb) := by
  rw [Bool.eq_iff_iff]
  simp only [List.all_eq_true, List.mem_range, beq_iff_eq]
  constructor
  · intro h
    apply List.ext_getElem (by omega)
    intro i h1 h2
    have := h i (by omega)
    simpa [List.getD_eq_getElem?_getD, h1, h2] using this
  · intro h i _; rw [h]
theorem eq_ints (dd : Nat) (t e : TypeId) (k : IntKind) (n : Nat) (ht : P.underlying t = some (.array n e)) (he : P.underlying e = some (.int k)) (hc : P.cellsOf e = 1) (la lb : List Int) (ha : la.length = n) (hb : lb.length = n) :
    (Op.equalIn (dd + 2) t (.agg (la.map (Value.int k)).toArray) (.agg (lb.map (Value.int k)).toArray)).run P w = .ok (la == lb) w := by
  obtain ⟨i, hi⟩ := info_of_underlying he
  rw [run_equalIn_array w (dd + 1) _ _ ht hi, hc, eqItems_ints w dd e k he la lb _ (fun i hi => by simp at hi; omega), all_range_eq la lb n ha hb]
theorem eq_words (t e : TypeId) (n : Nat) (ht : P.underlying t = some (.array n e)) (he : P.underlying e = some (.int .u32)) (hc : P.cellsOf e = 1) (la lb : List UInt32) (ha : la.length = n) (hb : lb.length = n) :
    (Op.equalIn 10000 t (.agg (ws la)) (.agg (ws lb))).run P w = .ok (la == lb) w := by
  have h := eq_ints (P := P) w 9998 t e .u32 n ht he hc (la.map fun x => (x.toNat : Int)) (lb.map fun x => (x.toNat : Int)) (by simpa using ha) (by simpa using hb)
  have e1 : ∀ l : List UInt32, ((l.map fun x => (x.toNat : Int)).map (Value.int .u32)).toArray = ws l := by intro l; simp [ws]
  rw [e1, e1] at h
  rw [h]
  congr 1
  rw [Bool.eq_iff_iff, beq_iff_eq, beq_iff_eq]
  constructor
  · intro h2
    exact map_inj (fun x : UInt32 => (x.toNat : Int)) (fun a b hab => UInt32.toNat_inj.1 (Int.ofNat_inj.1 hab)) _ _ h2
  · intro h2; rw [h2]
theorem eq_bytes (t e : TypeId) (n : Nat) (ht : P.underlying t = some (.array n e)) (he : P.underlying e = some (.int .u8)) (hc : P.cellsOf e = 1) (la lb : List UInt8) (ha : la.length = n) (hb : lb.length = n) :
    (Op.equalIn 10000 t (.agg (bs la)) (.agg (bs lb))).run P w = .ok (la == lb) w := by
  have h := eq_ints (P := P) w 9998 t e .u8 n ht he hc (la.map fun x => (x.toNat : Int)) (lb.map fun x => (x.toNat : Int)) (by simpa using ha) (by simpa using hb)
  have e1 : ∀ l : List UInt8, ((l.map fun x => (x.toNat : Int)).map (Value.int .u8)).toArray = bs l := by intro l; simp [bs]
  rw [e1, e1] at h
  rw [h]
  congr 1
  rw [Bool.eq_iff_iff, beq_iff_eq, beq_iff_eq]
  constructor
  · intro h2
    exact map_inj (fun x : UInt8 => (x.toNat : Int)) (fun a b hab => UInt8.toNat_inj.1 (Int.ofNat_inj.1 hab)) _ _ h2
  · intro h2; rw [h2]
end
end Go.Proofs.Ythpbhimmfmablaa

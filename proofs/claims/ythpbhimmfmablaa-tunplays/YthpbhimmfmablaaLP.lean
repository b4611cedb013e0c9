/- Structs with arrays of integers in them as arguments: opened part by part, and shut again. No program is run here. -/
import Derived.Test.YthpbhimmfmablaaMK
import Derived.Test.YthpbhimmfmablaaLS
namespace Go.Proofs.Ythpbhimmfmablaa
open Go.ChangeShapes Go.WideShapes Go.ChangeAt Go.RowKit
section
variable {H : Type} {enc : TypeId × Value → H} {P : Program} {W : World} {base : Nat} {spare : Nat → Bool} {held : Bool}
theorem cells_ints {k : IntKind} {n fuel : Nat} {t e : TypeId} {cs : List Value} {y : DataW H × List MemPlace} (ht : P.underlying t = some (.array n e)) (he : P.underlying e = some (.int k)) (hce : P.cellsOf e = 1) (hct : P.cellsOf t = n)
    (h : DataW.trod enc P W base spare held fuel t cs = some y) :
    ∃ l : List Int, l.length = n ∧ cs = l.map (Value.int k) ∧ y = (.agg (l.map fun x => .lit (.int k x)), []) ∧ ∀ x ∈ l, (Lit.int k x).wf = true := by
  obtain ⟨xs, m, _, hx, hsz, hlen, hg⟩ := DataW.trod_array ht h
  rw [hct] at hsz
  rw [hce] at hg
  have hcell : ∀ i, (hi : i < n) → ∃ x : Int, cs[i]? = some (Value.int k x) ∧ xs[i]? = some (.lit (.int k x), []) ∧ (Lit.int k x).wf = true := by
    intro i hi
    have h1 := hg i hi
    have hs : i < cs.length := by omega
    have e1 : (cs.drop (i * 1)).take 1 = [cs[i]] := by
      rw [Nat.mul_one, List.drop_eq_getElem_cons hs, List.take_succ_cons, List.take_zero]
    rw [e1, List.getElem?_eq_getElem (by omega)] at h1
    obtain ⟨z, hc, hy, hw⟩ := DataW.trod_int he h1
    simp only [List.cons.injEq, and_true] at hc
    exact ⟨z, by rw [List.getElem?_eq_getElem hs, hc], by rw [List.getElem?_eq_getElem (by omega), hy], hw⟩
  obtain ⟨l, hl, hlc, hlx, hlw⟩ : ∃ l : List Int, l.length = n ∧ cs = l.map (Value.int k) ∧ xs = l.map (fun x => ((.lit (.int k x), []) : DataW H × List MemPlace)) ∧ ∀ x ∈ l, (Lit.int k x).wf = true := by
    refine ⟨(List.range n).map fun i => intAt cs[i]?, by simp, ?_, ?_, ?_⟩
    · apply List.ext_getElem (by simp [hsz])
      intro i h1 h2
      obtain ⟨x, hx1, _, _⟩ := hcell i (by omega)
      rw [List.getElem?_eq_getElem h1] at hx1
      simp only [Option.some.injEq] at hx1
      simp [h1, hx1, intAt]
    · apply List.ext_getElem (by simp [hlen])
      intro i h1 h2
      obtain ⟨x, hx1, hx2, _⟩ := hcell i (by omega)
      rw [List.getElem?_eq_getElem h1] at hx2
      simp only [Option.some.injEq] at hx2
      rw [hx2]
      simp [hx1, intAt]
    · intro x hx
      simp only [List.mem_map, List.mem_range] at hx
      obtain ⟨i, hi, rfl⟩ := hx
      obtain ⟨x, hx1, _, hw⟩ := hcell i hi
      rw [hx1]; exact hw
  refine ⟨l, hl, hlc, ?_, hlw⟩
  rw [hx, hlx]
  simp
theorem trod_ints_mk {k : IntKind} {n : Nat} {t e : TypeId} (m : Nat) (ht : P.underlying t = some (.array n e)) (he : P.underlying e = some (.int k)) (hce : P.cellsOf e = 1) (hct : P.cellsOf t = n)
    (l : List Int) (hl : l.length = n) (hw : ∀ x ∈ l, (Lit.int k x).wf = true) : DataW.trod enc P W base spare held (m + 2) t (l.map (Value.int k)) = some (.agg (l.map fun x => .lit (.int k x)), []) := by
  have hr : l = (List.range n).map (fun i => l.getD i 0) := by
    apply List.ext_getElem (by simp [hl])
    intro i h1 h2
    simp [h1]
  have hm : (List.range n).mapM (fun i => DataW.trod enc P W base spare held (m + 1) e ((((l.map (Value.int k))).drop (i * P.cellsOf e)).take (P.cellsOf e))) = some ((List.range n).map fun i => ((.lit (.int k (l.getD i 0)), []) : DataW H × List MemPlace)) := by
    refine mapM_of _ (fun i hi => ?_)
    rw [List.mem_range] at hi
    have hi2 : i < l.length := by omega
    have e1 : ((l.map (Value.int k)).drop (i * P.cellsOf e)).take (P.cellsOf e) = [Value.int k (l.getD i 0)] := by
      rw [hce, Nat.mul_one, List.drop_eq_getElem_cons (by simpa using hi2)]
      simp [hi2]
    rw [e1]
    have hwf := hw (l.getD i 0) (by rw [List.getD_eq_getElem?_getD, List.getElem?_eq_getElem hi2]; exact List.getElem_mem hi2)
    rw [List.getD_eq_getElem?_getD] at hwf ⊢
    simp [DataW.trod, he, hwf]
  unfold DataW.trod
  simp only [ht]
  rw [if_pos (by simp [hl, hct])]
  rw [hm]
  simp only [Option.map_some, List.map_map]
  congr 2
  · congr 1
    conv => rhs; rw [hr]
    rw [List.map_map]; rfl
  · simp
/-- bytes as data -/
def bytesD (l : List UInt8) : DataW H := .agg (l.map fun x => .lit (.int .u8 (x.toNat : Int)))
theorem cells_bytes {n fuel : Nat} {t e : TypeId} {cs : List Value} {y : DataW H × List MemPlace} (ht : P.underlying t = some (.array n e)) (he : P.underlying e = some (.int .u8)) (hce : P.cellsOf e = 1) (hct : P.cellsOf t = n)
    (h : DataW.trod enc P W base spare held fuel t cs = some y) : ∃ l : List UInt8, l.length = n ∧ cs = l.map B8 ∧ y = (bytesD l, []) := by
  obtain ⟨l, hl, rfl, rfl, hw⟩ := cells_ints ht he hce hct h
  obtain ⟨b, rfl⟩ := bytes_of_ints l hw
  exact ⟨b, by simpa using hl, by rw [List.map_map]; rfl, by rw [List.map_map]; rfl⟩
theorem trod_bytes_mk {n : Nat} {t e : TypeId} (m : Nat) (ht : P.underlying t = some (.array n e)) (he : P.underlying e = some (.int .u8)) (hce : P.cellsOf e = 1) (hct : P.cellsOf t = n) (l : List UInt8) (hl : l.length = n) :
    DataW.trod enc P W base spare held (m + 2) t (l.map B8) = some (bytesD l, []) := by
  have h := trod_ints_mk (enc := enc) (W := W) (base := base) (spare := spare) (held := held) m ht he hce hct (l.map fun x => (x.toNat : Int)) (by simpa using hl) (fun x hx => by
    simp only [List.mem_map] at hx
    obtain ⟨y, _, rfl⟩ := hx
    exact wf8 y)
  rw [List.map_map, List.map_map] at h
  exact h
theorem cells_bool {fuel : Nat} {t : TypeId} {cs : List Value} {y : DataW H × List MemPlace} (ht : P.underlying t = some .bool) (h : DataW.trod enc P W base spare held fuel t cs = some y) : ∃ b : Bool, cs = [.bool b] ∧ y = (.lit (.bool b), []) := by
  cases fuel with
  | zero => simp [DataW.trod] at h
  | succ m =>
    unfold DataW.trod at h
    rw [ht] at h
    split at h <;> simp_all
theorem trod_bool_mk {t : TypeId} (m : Nat) (ht : P.underlying t = some .bool) (b : Bool) : DataW.trod enc P W base spare held (m + 1) t [.bool b] = some (.lit (.bool b), []) := by
  simp [DataW.trod, ht]
end
theorem drop_cut (cs : List Value) (off n : Nat) : cs.drop off = (cs.drop off).take n ++ cs.drop (off + n) := by rw [← List.drop_drop, List.take_append_drop]
end Go.Proofs.Ythpbhimmfmablaa

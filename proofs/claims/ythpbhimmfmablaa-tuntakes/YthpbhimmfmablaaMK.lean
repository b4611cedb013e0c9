/- Arrays of integers as arguments: opened and shut again. No program is run here. -/
import Derived.Test.YthpbhimmfmablaaMP
namespace Go.Proofs.Ythpbhimmfmablaa
open Go.ChangeShapes Go.WideShapes Go.ChangeAt Go.RowKit
theorem mapM_of {α β : Type} {f : α → Option β} {g : α → β} : ∀ (l : List α), (∀ x ∈ l, f x = some (g x)) → l.mapM f = some (l.map g)
  | [], _ => by simp
  | x :: l, h => by
    rw [List.mapM_cons, h x (by simp), mapM_of l (fun y hy => h y (by simp [hy]))]
    simp
def intAt : Option Value → Int
  | some (.int _ x) => x
  | _ => 0
section
variable {H : Type} {enc : TypeId × Value → H} {P : Program} {W : World} {base : Nat} {spare : Nat → Bool} {held : Bool}
theorem open_ints {k : IntKind} {n : Nat} {t e : TypeId} {b0 : Nat} {v : Value} {d : DataW H} {p : List MemPlace} (ht : P.underlying t = some (.array n e)) (he : P.underlying e = some (.int k)) (hce : P.cellsOf e = 1) (hct : P.cellsOf t = n)
    (hv : Value.okWide P W .any b0 t v) (h : DataW.Trod enc P W base spare held t v d p) :
    ∃ l : List Int, l.length = n ∧ v = .agg (l.map (Value.int k)).toArray ∧ d = .agg (l.map fun x => .lit (.int k x)) ∧ p = [] ∧ ∀ x ∈ l, (Lit.int k x).wf = true := by
  obtain ⟨cs, rfl, hsz, _⟩ : ∃ cs, v = .agg cs ∧ cs.size = P.cellsOf t ∧ Row.okWide P W .any b0 t cs := by
    simpa [Value.okWide, ht] using hv
  rw [hct] at hsz
  obtain ⟨fuel, hf⟩ := h
  obtain ⟨xs, m, _, hx, _, hlen, hg⟩ := DataW.trod_array ht hf
  rw [hce] at hg
  have hcell : ∀ i, (hi : i < n) → ∃ x : Int, cs[i]? = some (Value.int k x) ∧ xs[i]? = some (.lit (.int k x), []) ∧ (Lit.int k x).wf = true := by
    intro i hi
    have h1 := hg i hi
    have hs : i < cs.size := by omega
    have e1 : ((Value.cells (Value.agg cs)).toList.drop (i * 1)).take 1 = [cs[i]] := by
      show (cs.toList.drop (i * 1)).take 1 = [cs[i]]
      rw [Nat.mul_one, List.drop_eq_getElem_cons (by simpa using hs)]
      simp
    rw [e1, List.getElem?_eq_getElem (by omega)] at h1
    obtain ⟨z, hc, hy, hw⟩ := DataW.trod_int he h1
    simp only [List.cons.injEq, and_true] at hc
    exact ⟨z, by rw [Array.getElem?_eq_getElem hs, hc], by rw [List.getElem?_eq_getElem (by omega), hy], hw⟩
  obtain ⟨l, hl, hlc, hlx, hlw⟩ : ∃ l : List Int, l.length = n ∧ cs = (l.map (Value.int k)).toArray ∧ xs = l.map (fun x => ((.lit (.int k x), []) : DataW H × List MemPlace)) ∧ ∀ x ∈ l, (Lit.int k x).wf = true := by
    refine ⟨(List.range n).map fun i => intAt cs[i]?, by simp, ?_, ?_, ?_⟩
    · apply Array.toList_inj.1
      apply List.ext_getElem (by simp [hsz])
      intro i h1 h2
      have hs : i < cs.size := by simpa using h1
      obtain ⟨x, hx1, _, _⟩ := hcell i (by omega)
      rw [Array.getElem?_eq_getElem hs] at hx1
      simp only [Option.some.injEq] at hx1
      simp [hs, hx1, intAt]
    · apply List.ext_getElem (by simp [hlen])
      intro i h1 h2
      obtain ⟨x, hx1, hx2, _⟩ := hcell i (by omega)
      rw [List.getElem?_eq_getElem h1] at hx2
      simp only [Option.some.injEq] at hx2
      rw [hx2]
      simp [hx1, intAt]
    · intro x hx
      simp only [List.mem_map, List.mem_range] at hx
      obtain ⟨i, hi, rfl⟩ := hx
      obtain ⟨x, hx1, _, hw⟩ := hcell i hi
      rw [hx1]; exact hw
  refine ⟨l, hl, by rw [hlc], ?_, ?_, hlw⟩
  · simp only [Prod.mk.injEq] at hx
    rw [hx.1, hlx]; simp
  · simp only [Prod.mk.injEq] at hx
    rw [hx.2, hlx]; simp
theorem shut_ints {k : IntKind} {n : Nat} {t e : TypeId} (ht : P.underlying t = some (.array n e)) (he : P.underlying e = some (.int k)) (hce : P.cellsOf e = 1) (hct : P.cellsOf t = n)
    (l : List Int) (hl : l.length = n) (hw : ∀ x ∈ l, (Lit.int k x).wf = true) :
    DataW.Trod enc P W base spare held t (.agg (l.map (Value.int k)).toArray) (.agg (l.map fun x => .lit (.int k x))) [] := by
  refine ⟨2, ?_⟩
  have hr : l = (List.range n).map (fun i => l.getD i 0) := by
    apply List.ext_getElem (by simp [hl])
    intro i h1 h2
    simp [h1]
  have hm : (List.range n).mapM (fun i => DataW.trod enc P W base spare held 1 e ((((l.map (Value.int k))).drop (i * P.cellsOf e)).take (P.cellsOf e))) = some ((List.range n).map fun i => ((.lit (.int k (l.getD i 0)), []) : DataW H × List MemPlace)) := by
    refine mapM_of _ (fun i hi => ?_)
    rw [List.mem_range] at hi
    have hi2 : i < l.length := by omega
    have e1 : ((l.map (Value.int k)).drop (i * P.cellsOf e)).take (P.cellsOf e) = [Value.int k (l.getD i 0)] := by
      rw [hce, Nat.mul_one, List.drop_eq_getElem_cons (by simpa using hi2)]
      simp [hi2]
    rw [e1]
    have hwf := hw (l.getD i 0) (by rw [List.getD_eq_getElem?_getD, List.getElem?_eq_getElem hi2]; exact List.getElem_mem hi2)
    rw [List.getD_eq_getElem?_getD] at hwf ⊢
    simp [DataW.trod, he, hwf]
  show DataW.trod enc P W base spare held 2 t ((l.map (Value.int k)).toArray).toList = _
  unfold DataW.trod
  simp only [ht]
  rw [if_pos (by simp [hl, hct])]
  rw [hm]
  simp only [Option.map_some, List.map_map]
  congr 2
  · congr 1
    conv => rhs; rw [hr]
    rw [List.map_map]; rfl
  · simp
/-- bytes out of integers -/
theorem bytes_of_ints (l : List Int) (hw : ∀ x ∈ l, (Lit.int .u8 x).wf = true) : ∃ b : List UInt8, l = b.map (fun x => (x.toNat : Int)) := by
  refine ⟨l.map (fun x => UInt8.ofNat x.toNat), ?_⟩
  rw [List.map_map]
  conv => lhs; rw [← List.map_id l]
  apply List.map_congr_left
  intro x hx
  have := bounds_u8 (hw x hx)
  show x = (((UInt8.ofNat x.toNat).toNat : Nat) : Int)
  rw [UInt8.toNat_ofNat', Nat.mod_eq_of_lt (by omega)]
  omega
theorem wf8 (x : UInt8) : (Lit.int .u8 (x.toNat : Int)).wf = true := by
  have := x.toNat_lt
  simp [Lit.wf, IntKind.min, IntKind.max, IntKind.signed, IntKind.bits]; omega
/-- an array of bytes, opened -/
theorem open_bytes {n : Nat} {t e : TypeId} {b0 : Nat} {v : Value} {d : DataW H} {p : List MemPlace} (ht : P.underlying t = some (.array n e)) (he : P.underlying e = some (.int .u8)) (hce : P.cellsOf e = 1) (hct : P.cellsOf t = n)
    (hv : Value.okWide P W .any b0 t v) (h : DataW.Trod enc P W base spare held t v d p) :
    ∃ l : List UInt8, v = .agg (bs l) ∧ d = .agg (l.map fun x => .lit (.int .u8 (x.toNat : Int))) ∧ p = [] ∧ l.length = n := by
  obtain ⟨l, hl, rfl, rfl, rfl, hw⟩ := open_ints ht he hce hct hv h
  obtain ⟨b, rfl⟩ := bytes_of_ints l hw
  exact ⟨b, by rw [List.map_map]; rfl, by rw [List.map_map]; rfl, rfl, by simpa using hl⟩
theorem shut_bytes {n : Nat} {t e : TypeId} (ht : P.underlying t = some (.array n e)) (he : P.underlying e = some (.int .u8)) (hce : P.cellsOf e = 1) (hct : P.cellsOf t = n) (l : List UInt8) (hl : l.length = n) :
    DataW.Trod enc P W base spare held t (.agg (bs l)) (.agg (l.map fun x => .lit (.int .u8 (x.toNat : Int)))) [] := by
  have h := shut_ints (enc := enc) (W := W) (base := base) (spare := spare) (held := held) ht he hce hct (l.map fun x => (x.toNat : Int)) (by simpa using hl) (fun x hx => by
    simp only [List.mem_map] at hx
    obtain ⟨y, _, rfl⟩ := hx
    exact wf8 y)
  rw [List.map_map, List.map_map] at h
  exact h
end
end Go.Proofs.Ythpbhimmfmablaa

/- Arrays of words of 64 bits as arguments: opened and shut again. No program is run here. -/
import Derived.Test.YtenpohoekgfeaaaMK
import Derived.Test.YtenpohoekgfeaaaPA
namespace Go.Proofs.Ytenpohoekgfeaaa
open Go.ChangeShapes Go.WideShapes Go.ChangeAt Go.RowKit
theorem wf64 (x : Nat) (h : x < 18446744073709551616) : (Lit.int .u64 (x : Int)).wf = true := by
  simp [Lit.wf, IntKind.min, IntKind.max, IntKind.signed, IntKind.bits]; omega
theorem words_of_ints (l : List Int) (hw : ∀ x ∈ l, (Lit.int .u64 x).wf = true) : ∃ b : List Nat, l = b.map (fun x : Nat => (x : Int)) ∧ Dig 18446744073709551616 b := by
  have hb : ∀ x ∈ l, 0 ≤ x ∧ x < 18446744073709551616 := fun x hx => by
    have := hw x hx
    simp [Lit.wf, IntKind.min, IntKind.max, IntKind.signed, IntKind.bits] at this; omega
  refine ⟨l.map Int.toNat, ?_, ?_⟩
  · rw [List.map_map]
    conv => lhs; rw [← List.map_id l]
    apply List.map_congr_left
    intro x hx
    have := hb x hx
    show x = ((x.toNat : Nat) : Int)
    omega
  · intro a ha
    obtain ⟨x, hx, rfl⟩ := List.mem_map.1 ha
    have := hb x hx
    omega
section
variable {H : Type} {enc : TypeId × Value → H} {P : Program} {W : World} {base : Nat} {spare : Nat → Bool} {held : Bool}
theorem open_words {n : Nat} {t e : TypeId} {b0 : Nat} {v : Value} {d : DataW H} {p : List MemPlace} (ht : P.underlying t = some (.array n e)) (he : P.underlying e = some (.int .u64)) (hce : P.cellsOf e = 1) (hct : P.cellsOf t = n)
    (hv : Value.okWide P W .any b0 t v) (h : DataW.Trod enc P W base spare held t v d p) :
    ∃ l : List Nat, v = .agg (us l) ∧ d = .agg (l.map fun x : Nat => .lit (.int .u64 (x : Int))) ∧ p = [] ∧ l.length = n ∧ Dig 18446744073709551616 l := by
  obtain ⟨l, hl, rfl, rfl, rfl, hw⟩ := open_ints ht he hce hct hv h
  obtain ⟨b, rfl, hd⟩ := words_of_ints l hw
  exact ⟨b, by rw [List.map_map]; rfl, by rw [List.map_map]; rfl, rfl, by simpa using hl, hd⟩
theorem shut_words {n : Nat} {t e : TypeId} (ht : P.underlying t = some (.array n e)) (he : P.underlying e = some (.int .u64)) (hce : P.cellsOf e = 1) (hct : P.cellsOf t = n) (l : List Nat) (hl : l.length = n) (hd : Dig 18446744073709551616 l) :
    DataW.Trod enc P W base spare held t (.agg (us l)) (.agg (l.map fun x : Nat => .lit (.int .u64 (x : Int)))) [] := by
  have h := shut_ints (enc := enc) (W := W) (base := base) (spare := spare) (held := held) ht he hce hct (l.map fun x : Nat => (x : Int)) (by simpa using hl) (fun x hx => by
    simp only [List.mem_map] at hx
    obtain ⟨y, hy, rfl⟩ := hx
    exact wf64 y (hd y hy))
  rw [List.map_map, List.map_map] at h
  exact h
end
end Go.Proofs.Ytenpohoekgfeaaa

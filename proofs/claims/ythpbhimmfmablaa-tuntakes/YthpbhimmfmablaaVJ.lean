/- ether.tagOf, Print; the law's Of, Plain, awake: walked. -/
import Derived.Test.YthpbhimmfmablaaVD
namespace Go.Proofs.Ythpbhimmfmablaa
open Go.RowKit
theorem six_cases {x : E8} (h : x.Six) : ∃ a0 a1 a2 a3 a4 a5 b0 b1 b2 b3 b4 b5, x.d = [a0, a1, a2, a3, a4, a5] ∧ x.s = [b0, b1, b2, b3, b4, b5] := by
  obtain ⟨hd, hs⟩ := h
  match x.d, x.s, hd, hs with
  | [a0, a1, a2, a3, a4, a5], [b0, b1, b2, b3, b4, b5], _, _ => exact ⟨a0, a1, a2, a3, a4, a5, b0, b1, b2, b3, b4, b5, rfl, rfl⟩
theorem cells_of {x : E8} {a0 a1 a2 a3 a4 a5 b0 b1 b2 b3 b4 b5 : UInt8} (hd : x.d = [a0, a1, a2, a3, a4, a5]) (hs : x.s = [b0, b1, b2, b3, b4, b5]) :
    x.c = #[B8 a0, B8 a1, B8 a2, B8 a3, B8 a4, B8 a5, B8 b0, B8 b1, B8 b2, B8 b3, B8 b4, B8 b5, .int .i64 x.k, .string x.b, .int .i64 x.v, .int .i64 x.p] := by
  unfold E8.c; rw [hd, hs]; rfl
/-- what a frame's tag is laid as -/
def tagL (V Q : Nat) : List UInt8 := beTail 33024 2 ++ beTail (Q * 8192 + V) 2
theorem or_tag (V Q : Nat) (hV : V < 8192) (hQ : Q < 8) : bits .or .i64 ((Q * 8192 : Nat) : Int) (V : Int) = ((Q * 8192 + V : Nat) : Int) := by
  rw [i64_or_small _ _ (by omega) (by omega), nat_join 13 (Q * 8192) V (by omega) hV]
end Go.Proofs.Ythpbhimmfmablaa

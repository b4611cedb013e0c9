/-
  No cell of these rows narrows 'for every input' (looked for: loops, veiled, ifaces, maps, wideKeys, modest, calm, conditions, laid).
  DERIVED. THE GIVEN ROWS OF THIS SEAT. 4 by the template 'for every input the law returns true; each argument reads behind the call as it read before'; 0 by the template 'total and deterministic' (their statements: YtkjkmnaiddjjnaaTotals.lean).
  GIVEN WITH THE SEED: the statements are not yours to turn. If you find one false, say at which input.
  Laid BY PROGRAM, IN A SANDBOX (cutbox-rows.mjs): the forced cells as the released guide's own fill.sh prints them over the translation 50d9fe7caba3ad1e… (all of the seat's roots in one cut). By AI agents, Wed Nov 11 2026. No macro, syntax, notation, axiom, sorry.
-/
import Derived.Test.YtkjkmnaiddjjnaaChecked
import GoSem.Claim
import GoSem.ClaimJoined
import GoSem.ClaimMapViews
import Derived.JoinedTies
import Derived.KernelRfl
namespace Go.Proofs.Ytkjkmnaiddjjnaa
/- THE CELL 'sum', in the pinned program and in every row, IS THE sha256 OF THE DUMP (.gsa) THAT YtkjkmnaiddjjnaaProg.lean LOADS. Nothing in Lean hashes anything: it is a label: what it is worth is what the hold of that sum in a sandbox is worth. -/
noncomputable def Try.pinned : Pinned := { name := "ytkjkmnaiddjjnaa", sum := "50d9fe7caba3ad1e0d7587bb71f7f76e16a6b9d38de602d3201684d856e42813", checked := Try.checked }
namespace Rows
def none {H : Type} : Left H := { results := [], args := [] }

/-- 'causeylaw10.NdBack': WHATEVER THE INPUT: true; the input reads as it did. -/
def ndBackSpec : ChangeSpec := { name := "ndBack", fn := fun _ => fun
  | [d1, d2] => { results := [.lit (.bool true)], args := [d1, d2] }
  | _ => none }
def ndBackRow : OpenClaim := { program := "ytkjkmnaiddjjnaa", sum := "50d9fe7caba3ad1e0d7587bb71f7f76e16a6b9d38de602d3201684d856e42813", func := "causey/causeylaw10.NdBack", spec := "ndBack", unfollowed := true, recurses := true, apart := false }
def NdBackSaid : Prop := ndBackRow.holds Try.pinned (OpenSpec.ofChange ndBackSpec)

/-- ITS FALSE NEIGHBOUR: 'it returns false'. Refute it at one input. -/
def ndBackWrong : ChangeSpec := { name := "ndBack", fn := fun _ => fun
  | [d1, d2] => { results := [.lit (.bool false)], args := [d1, d2] }
  | _ => none }
def NdBackWrongFalsely : Prop := ndBackRow.holds Try.pinned (OpenSpec.ofChange ndBackWrong)

/-- 'causeylaw10.NdSpoilt': WHATEVER THE INPUT: true; the input reads as it did. -/
def ndSpoiltSpec : ChangeSpec := { name := "ndSpoilt", fn := fun _ => fun
  | [d1, d2, d3] => { results := [.lit (.bool true)], args := [d1, d2, d3] }
  | _ => none }
def ndSpoiltRow : OpenClaim := { program := "ytkjkmnaiddjjnaa", sum := "50d9fe7caba3ad1e0d7587bb71f7f76e16a6b9d38de602d3201684d856e42813", func := "causey/causeylaw10.NdSpoilt", spec := "ndSpoilt", unfollowed := true, recurses := true, apart := false }
def NdSpoiltSaid : Prop := ndSpoiltRow.holds Try.pinned (OpenSpec.ofChange ndSpoiltSpec)

/-- ITS FALSE NEIGHBOUR: 'it returns false'. Refute it at one input. -/
def ndSpoiltWrong : ChangeSpec := { name := "ndSpoilt", fn := fun _ => fun
  | [d1, d2, d3] => { results := [.lit (.bool false)], args := [d1, d2, d3] }
  | _ => none }
def NdSpoiltWrongFalsely : Prop := ndSpoiltRow.holds Try.pinned (OpenSpec.ofChange ndSpoiltWrong)

/-- 'causeylaw10.NdAnswers': WHATEVER THE INPUT: true; the input reads as it did. -/
def ndAnswersSpec : ChangeSpec := { name := "ndAnswers", fn := fun _ => fun
  | [d1, d2, d3] => { results := [.lit (.bool true)], args := [d1, d2, d3] }
  | _ => none }
def ndAnswersRow : OpenClaim := { program := "ytkjkmnaiddjjnaa", sum := "50d9fe7caba3ad1e0d7587bb71f7f76e16a6b9d38de602d3201684d856e42813", func := "causey/causeylaw10.NdAnswers", spec := "ndAnswers", unfollowed := true, recurses := true, apart := false }
def NdAnswersSaid : Prop := ndAnswersRow.holds Try.pinned (OpenSpec.ofChange ndAnswersSpec)

/-- ITS FALSE NEIGHBOUR: 'it returns false'. Refute it at one input. -/
def ndAnswersWrong : ChangeSpec := { name := "ndAnswers", fn := fun _ => fun
  | [d1, d2, d3] => { results := [.lit (.bool false)], args := [d1, d2, d3] }
  | _ => none }
def NdAnswersWrongFalsely : Prop := ndAnswersRow.holds Try.pinned (OpenSpec.ofChange ndAnswersWrong)

/-- 'causeylaw10.NdCut': WHATEVER THE INPUT: true; the input reads as it did. -/
def ndCutSpec : ChangeSpec := { name := "ndCut", fn := fun _ => fun
  | [d1, d2] => { results := [.lit (.bool true)], args := [d1, d2] }
  | _ => none }
def ndCutRow : OpenClaim := { program := "ytkjkmnaiddjjnaa", sum := "50d9fe7caba3ad1e0d7587bb71f7f76e16a6b9d38de602d3201684d856e42813", func := "causey/causeylaw10.NdCut", spec := "ndCut", unfollowed := true, recurses := true, apart := false }
def NdCutSaid : Prop := ndCutRow.holds Try.pinned (OpenSpec.ofChange ndCutSpec)

/-- ITS FALSE NEIGHBOUR: 'it returns false'. Refute it at one input. -/
def ndCutWrong : ChangeSpec := { name := "ndCut", fn := fun _ => fun
  | [d1, d2] => { results := [.lit (.bool false)], args := [d1, d2] }
  | _ => none }
def NdCutWrongFalsely : Prop := ndCutRow.holds Try.pinned (OpenSpec.ofChange ndCutWrong)

/- THE SECOND FORM. 'bulk': how many values and letters a reading holds, each counted each time it is reached (what is shared counts as often as it is met; a slice's spare places count too). A statement '..UptoSaid' is the law's where the arguments, and the package variables that the reading takes, are together of bulk at most 1048576: NARROWER than '..Said'. Prove '..Said' where nothing that the law and all that it calls make is longer than what came in: it says more and counts as full. Else prove '..UptoSaid'. A law counts once. -/
mutual
def uptoBulk {H : Type} : DataW H → Nat
  | .lit (.string bytes) => bytes.length + 1
  | .lit _ => 1
  | .nil => 1
  | .ptr d => uptoBulk d + 1
  | .slice elems spare => uptoBulkAll elems + uptoBulkAll spare + 1
  | .agg parts => uptoBulkAll parts + 1
  | .iface _ d => uptoBulk d + 1
  | .map entries => uptoBulkEntries entries + 1
  | .held _ => 1
def uptoBulkAll {H : Type} : List (DataW H) → Nat
  | [] => 0
  | d :: r => uptoBulk d + uptoBulkAll r
def uptoBulkEntries {H : Type} : List (Lit × DataW H) → Nat
  | [] => 0
  | x :: r => uptoBulkEntry x + uptoBulkEntries r
def uptoBulkEntry {H : Type} : Lit × DataW H → Nat
  | (.string bytes, d) => bytes.length + uptoBulk d + 1
  | (_, d) => uptoBulk d + 1
 end
def uptoSmall : (H : Type) → List (DataW H) → Bool := fun _ ds => decide (uptoBulkAll ds ≤ 1048576)
def OpenSpec.upto (s : _root_.Go.ChangeSpec) : _root_.Go.OpenSpec := { _root_.Go.OpenSpec.ofChange s with cond := some uptoSmall }

/-- 'causeylaw10.NdBack', WHERE WHAT IT READS IS OF BULK AT MOST 1048576: true; the input reads as it did. -/
def ndBackUptoRow : OpenClaim := { program := "ytkjkmnaiddjjnaa", sum := "50d9fe7caba3ad1e0d7587bb71f7f76e16a6b9d38de602d3201684d856e42813", func := "causey/causeylaw10.NdBack", spec := "ndBack", unfollowed := true, recurses := true, apart := false, narrowed := true }
def NdBackUptoSaid : Prop := ndBackUptoRow.holds Try.pinned (OpenSpec.upto ndBackSpec)

/-- 'causeylaw10.NdSpoilt', WHERE WHAT IT READS IS OF BULK AT MOST 1048576: true; the input reads as it did. -/
def ndSpoiltUptoRow : OpenClaim := { program := "ytkjkmnaiddjjnaa", sum := "50d9fe7caba3ad1e0d7587bb71f7f76e16a6b9d38de602d3201684d856e42813", func := "causey/causeylaw10.NdSpoilt", spec := "ndSpoilt", unfollowed := true, recurses := true, apart := false, narrowed := true }
def NdSpoiltUptoSaid : Prop := ndSpoiltUptoRow.holds Try.pinned (OpenSpec.upto ndSpoiltSpec)

/-- 'causeylaw10.NdAnswers', WHERE WHAT IT READS IS OF BULK AT MOST 1048576: true; the input reads as it did. -/
def ndAnswersUptoRow : OpenClaim := { program := "ytkjkmnaiddjjnaa", sum := "50d9fe7caba3ad1e0d7587bb71f7f76e16a6b9d38de602d3201684d856e42813", func := "causey/causeylaw10.NdAnswers", spec := "ndAnswers", unfollowed := true, recurses := true, apart := false, narrowed := true }
def NdAnswersUptoSaid : Prop := ndAnswersUptoRow.holds Try.pinned (OpenSpec.upto ndAnswersSpec)

/-- 'causeylaw10.NdCut', WHERE WHAT IT READS IS OF BULK AT MOST 1048576: true; the input reads as it did. -/
def ndCutUptoRow : OpenClaim := { program := "ytkjkmnaiddjjnaa", sum := "50d9fe7caba3ad1e0d7587bb71f7f76e16a6b9d38de602d3201684d856e42813", func := "causey/causeylaw10.NdCut", spec := "ndCut", unfollowed := true, recurses := true, apart := false, narrowed := true }
def NdCutUptoSaid : Prop := ndCutUptoRow.holds Try.pinned (OpenSpec.upto ndCutSpec)

end Rows
end Go.Proofs.Ytkjkmnaiddjjnaa

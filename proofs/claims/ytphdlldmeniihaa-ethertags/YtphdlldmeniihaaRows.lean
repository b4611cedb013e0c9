/-
  No cell of these rows narrows 'for every input' (looked for: loops, veiled, ifaces, maps, wideKeys, modest, calm, conditions, laid).
  DERIVED. THE GIVEN ROWS OF THIS SEAT. 4 by the template 'for every input the law returns true; each argument reads behind the call as it read before'; 0 by the template 'total and deterministic' (their statements: YtphdlldmeniihaaTotals.lean).
  GIVEN WITH THE SEED: the statements are not yours to turn. If you find one false, say at which input.
  Laid BY PROGRAM, IN A SANDBOX (cutbox-rows.mjs): the forced cells as the released guide's own fill.sh prints them over the translation 508d9573cc23b3f8… (all of the seat's roots in one cut). By AI agents, Wed Nov 11 2026. No macro, syntax, notation, axiom, sorry.
-/
import Derived.Test.YtphdlldmeniihaaChecked
import GoSem.Claim
import GoSem.ClaimJoined
import GoSem.ClaimMapViews
import Derived.JoinedTies
import Derived.KernelRfl
namespace Go.Proofs.Ytphdlldmeniihaa
/- THE CELL 'sum', in the pinned program and in every row, IS THE sha256 OF THE DUMP (.gsa) THAT YtphdlldmeniihaaProg.lean LOADS. Nothing in Lean hashes anything: it is a label: what it is worth is what the hold of that sum in a sandbox is worth. -/
noncomputable def Try.pinned : Pinned := { name := "ytphdlldmeniihaa", sum := "508d9573cc23b3f8f7ff83267ce2f03ad45557bdb5b4f36f283ecd494b73a749", checked := Try.checked }
namespace Rows
def none {H : Type} : Left H := { results := [], args := [] }

/-- 'causeylaw08.EtherBack': WHATEVER THE INPUT: true; the input reads as it did. -/
def etherBackSpec : ChangeSpec := { name := "etherBack", fn := fun _ => fun
  | [d] => { results := [.lit (.bool true)], args := [d] }
  | _ => none }
def etherBackRow : OpenClaim := { program := "ytphdlldmeniihaa", sum := "508d9573cc23b3f8f7ff83267ce2f03ad45557bdb5b4f36f283ecd494b73a749", func := "causey/causeylaw08.EtherBack", spec := "etherBack", unfollowed := true, recurses := true, apart := false }
def EtherBackSaid : Prop := etherBackRow.holds Try.pinned (OpenSpec.ofChange etherBackSpec)

/-- ITS FALSE NEIGHBOUR: 'it returns false'. Refute it at one input. -/
def etherBackWrong : ChangeSpec := { name := "etherBack", fn := fun _ => fun
  | [d] => { results := [.lit (.bool false)], args := [d] }
  | _ => none }
def EtherBackWrongFalsely : Prop := etherBackRow.holds Try.pinned (OpenSpec.ofChange etherBackWrong)

/-- 'causeylaw08.EtherAgain': WHATEVER THE INPUT: true; the input reads as it did. -/
def etherAgainSpec : ChangeSpec := { name := "etherAgain", fn := fun _ => fun
  | [d] => { results := [.lit (.bool true)], args := [d] }
  | _ => none }
def etherAgainRow : OpenClaim := { program := "ytphdlldmeniihaa", sum := "508d9573cc23b3f8f7ff83267ce2f03ad45557bdb5b4f36f283ecd494b73a749", func := "causey/causeylaw08.EtherAgain", spec := "etherAgain", unfollowed := true, recurses := true, apart := false }
def EtherAgainSaid : Prop := etherAgainRow.holds Try.pinned (OpenSpec.ofChange etherAgainSpec)

/-- ITS FALSE NEIGHBOUR: 'it returns false'. Refute it at one input. -/
def etherAgainWrong : ChangeSpec := { name := "etherAgain", fn := fun _ => fun
  | [d] => { results := [.lit (.bool false)], args := [d] }
  | _ => none }
def EtherAgainWrongFalsely : Prop := etherAgainRow.holds Try.pinned (OpenSpec.ofChange etherAgainWrong)

/-- 'causeylaw08.EtherTags': WHATEVER THE INPUT: true; the input reads as it did. -/
def etherTagsSpec : ChangeSpec := { name := "etherTags", fn := fun _ => fun
  | [d1, d2, d3] => { results := [.lit (.bool true)], args := [d1, d2, d3] }
  | _ => none }
def etherTagsRow : OpenClaim := { program := "ytphdlldmeniihaa", sum := "508d9573cc23b3f8f7ff83267ce2f03ad45557bdb5b4f36f283ecd494b73a749", func := "causey/causeylaw08.EtherTags", spec := "etherTags", unfollowed := true, recurses := true, apart := false }
def EtherTagsSaid : Prop := etherTagsRow.holds Try.pinned (OpenSpec.ofChange etherTagsSpec)

/-- ITS FALSE NEIGHBOUR: 'it returns false'. Refute it at one input. -/
def etherTagsWrong : ChangeSpec := { name := "etherTags", fn := fun _ => fun
  | [d1, d2, d3] => { results := [.lit (.bool false)], args := [d1, d2, d3] }
  | _ => none }
def EtherTagsWrongFalsely : Prop := etherTagsRow.holds Try.pinned (OpenSpec.ofChange etherTagsWrong)

/-- 'causeylaw08.EtherCut': WHATEVER THE INPUT: true; the input reads as it did. -/
def etherCutSpec : ChangeSpec := { name := "etherCut", fn := fun _ => fun
  | [d1, d2] => { results := [.lit (.bool true)], args := [d1, d2] }
  | _ => none }
def etherCutRow : OpenClaim := { program := "ytphdlldmeniihaa", sum := "508d9573cc23b3f8f7ff83267ce2f03ad45557bdb5b4f36f283ecd494b73a749", func := "causey/causeylaw08.EtherCut", spec := "etherCut", unfollowed := true, recurses := true, apart := false }
def EtherCutSaid : Prop := etherCutRow.holds Try.pinned (OpenSpec.ofChange etherCutSpec)

/-- ITS FALSE NEIGHBOUR: 'it returns false'. Refute it at one input. -/
def etherCutWrong : ChangeSpec := { name := "etherCut", fn := fun _ => fun
  | [d1, d2] => { results := [.lit (.bool false)], args := [d1, d2] }
  | _ => none }
def EtherCutWrongFalsely : Prop := etherCutRow.holds Try.pinned (OpenSpec.ofChange etherCutWrong)

/- THE SECOND FORM. 'bulk': how many values and letters a reading holds, each counted each time it is reached (what is shared counts as often as it is met; a slice's spare places count too). A statement '..UptoSaid' is the law's where the arguments, and the package variables that the reading takes, are together of bulk at most 1048576: NARROWER than '..Said'. Prove '..Said' where nothing that the law and all that it calls make is longer than what came in: it says more and counts as full. Else prove '..UptoSaid'. A law counts once. -/
mutual
def uptoBulk {H : Type} : DataW H → Nat
  | .lit (.string bytes) => bytes.length + 1
  | .lit _ => 1
  | .nil => 1
  | .ptr d => uptoBulk d + 1
  | .slice elems spare => uptoBulkAll elems + uptoBulkAll spare + 1
  | .agg parts => uptoBulkAll parts + 1
  | .iface _ d => uptoBulk d + 1
  | .map entries => uptoBulkEntries entries + 1
  | .held _ => 1
def uptoBulkAll {H : Type} : List (DataW H) → Nat
  | [] => 0
  | d :: r => uptoBulk d + uptoBulkAll r
def uptoBulkEntries {H : Type} : List (Lit × DataW H) → Nat
  | [] => 0
  | x :: r => uptoBulkEntry x + uptoBulkEntries r
def uptoBulkEntry {H : Type} : Lit × DataW H → Nat
  | (.string bytes, d) => bytes.length + uptoBulk d + 1
  | (_, d) => uptoBulk d + 1
 end
def uptoSmall : (H : Type) → List (DataW H) → Bool := fun _ ds => decide (uptoBulkAll ds ≤ 1048576)
def OpenSpec.upto (s : _root_.Go.ChangeSpec) : _root_.Go.OpenSpec := { _root_.Go.OpenSpec.ofChange s with cond := some uptoSmall }

/-- 'causeylaw08.EtherBack', WHERE WHAT IT READS IS OF BULK AT MOST 1048576: true; the input reads as it did. -/
def etherBackUptoRow : OpenClaim := { program := "ytphdlldmeniihaa", sum := "508d9573cc23b3f8f7ff83267ce2f03ad45557bdb5b4f36f283ecd494b73a749", func := "causey/causeylaw08.EtherBack", spec := "etherBack", unfollowed := true, recurses := true, apart := false, narrowed := true }
def EtherBackUptoSaid : Prop := etherBackUptoRow.holds Try.pinned (OpenSpec.upto etherBackSpec)

/-- 'causeylaw08.EtherAgain', WHERE WHAT IT READS IS OF BULK AT MOST 1048576: true; the input reads as it did. -/
def etherAgainUptoRow : OpenClaim := { program := "ytphdlldmeniihaa", sum := "508d9573cc23b3f8f7ff83267ce2f03ad45557bdb5b4f36f283ecd494b73a749", func := "causey/causeylaw08.EtherAgain", spec := "etherAgain", unfollowed := true, recurses := true, apart := false, narrowed := true }
def EtherAgainUptoSaid : Prop := etherAgainUptoRow.holds Try.pinned (OpenSpec.upto etherAgainSpec)

/-- 'causeylaw08.EtherTags', WHERE WHAT IT READS IS OF BULK AT MOST 1048576: true; the input reads as it did. -/
def etherTagsUptoRow : OpenClaim := { program := "ytphdlldmeniihaa", sum := "508d9573cc23b3f8f7ff83267ce2f03ad45557bdb5b4f36f283ecd494b73a749", func := "causey/causeylaw08.EtherTags", spec := "etherTags", unfollowed := true, recurses := true, apart := false, narrowed := true }
def EtherTagsUptoSaid : Prop := etherTagsUptoRow.holds Try.pinned (OpenSpec.upto etherTagsSpec)

/-- 'causeylaw08.EtherCut', WHERE WHAT IT READS IS OF BULK AT MOST 1048576: true; the input reads as it did. -/
def etherCutUptoRow : OpenClaim := { program := "ytphdlldmeniihaa", sum := "508d9573cc23b3f8f7ff83267ce2f03ad45557bdb5b4f36f283ecd494b73a749", func := "causey/causeylaw08.EtherCut", spec := "etherCut", unfollowed := true, recurses := true, apart := false, narrowed := true }
def EtherCutUptoSaid : Prop := etherCutUptoRow.holds Try.pinned (OpenSpec.upto etherCutSpec)

end Rows
end Go.Proofs.Ytphdlldmeniihaa

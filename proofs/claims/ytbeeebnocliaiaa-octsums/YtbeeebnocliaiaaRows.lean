/-
  No cell of these rows narrows 'for every input' (looked for: loops, veiled, ifaces, maps, wideKeys, modest, calm, conditions, laid).
  DERIVED. THE GIVEN ROWS OF THIS SEAT. 2 by the template 'for every input the law returns true; each argument reads behind the call as it read before'; 0 by the template 'total and deterministic' (their statements: YtbeeebnocliaiaaTotals.lean).
  GIVEN WITH THE SEED: the statements are not yours to turn. If you find one false, say at which input.
  Laid BY PROGRAM, IN A SANDBOX (cutbox-rows.mjs): the forced cells as the released guide's own fill.sh prints them over the translation cd330c68180858f9… (all of the seat's roots in one cut). By AI agents, Wed Nov 11 2026. No macro, syntax, notation, axiom, sorry.
-/
import Derived.Test.YtbeeebnocliaiaaChecked
import GoSem.Claim
import GoSem.ClaimJoined
import GoSem.ClaimMapViews
import Derived.JoinedTies
import Derived.KernelRfl
namespace Go.Proofs.Ytbeeebnocliaiaa
/- THE CELL 'sum', in the pinned program and in every row, IS THE sha256 OF THE DUMP (.gsa) THAT YtbeeebnocliaiaaProg.lean LOADS. Nothing in Lean hashes anything: it is a label: what it is worth is what the hold of that sum in a sandbox is worth. -/
noncomputable def Try.pinned : Pinned := { name := "ytbeeebnocliaiaa", sum := "cd330c68180858f94cc94aaf0c1788d4b25894af24ca724bd99b804b8f18e69d", checked := Try.checked }
namespace Rows
def none {H : Type} : Left H := { results := [], args := [] }

/-- 'causeylaw07.OctSums': WHATEVER THE INPUT: true; the input reads as it did. -/
def octSumsSpec : ChangeSpec := { name := "octSums", fn := fun _ => fun
  | [d] => { results := [.lit (.bool true)], args := [d] }
  | _ => none }
def octSumsRow : OpenClaim := { program := "ytbeeebnocliaiaa", sum := "cd330c68180858f94cc94aaf0c1788d4b25894af24ca724bd99b804b8f18e69d", func := "causey/causeylaw07.OctSums", spec := "octSums", inPlace := ["internal/abi.NoEscape", "internal/bytealg.MakeNoZero"], unfollowed := true, recurses := true, apart := false }
def OctSumsSaid : Prop := octSumsRow.holds Try.pinned (OpenSpec.ofChange octSumsSpec)

/-- ITS FALSE NEIGHBOUR: 'it returns false'. Refute it at one input. -/
def octSumsWrong : ChangeSpec := { name := "octSums", fn := fun _ => fun
  | [d] => { results := [.lit (.bool false)], args := [d] }
  | _ => none }
def OctSumsWrongFalsely : Prop := octSumsRow.holds Try.pinned (OpenSpec.ofChange octSumsWrong)

/-- 'causeylaw07.OctAdds': WHATEVER THE INPUT: true; the input reads as it did. -/
def octAddsSpec : ChangeSpec := { name := "octAdds", fn := fun _ => fun
  | [d1, d2] => { results := [.lit (.bool true)], args := [d1, d2] }
  | _ => none }
def octAddsRow : OpenClaim := { program := "ytbeeebnocliaiaa", sum := "cd330c68180858f94cc94aaf0c1788d4b25894af24ca724bd99b804b8f18e69d", func := "causey/causeylaw07.OctAdds", spec := "octAdds", inPlace := ["internal/abi.NoEscape", "internal/bytealg.MakeNoZero"], unfollowed := true, recurses := true, apart := false }
def OctAddsSaid : Prop := octAddsRow.holds Try.pinned (OpenSpec.ofChange octAddsSpec)

/-- ITS FALSE NEIGHBOUR: 'it returns false'. Refute it at one input. -/
def octAddsWrong : ChangeSpec := { name := "octAdds", fn := fun _ => fun
  | [d1, d2] => { results := [.lit (.bool false)], args := [d1, d2] }
  | _ => none }
def OctAddsWrongFalsely : Prop := octAddsRow.holds Try.pinned (OpenSpec.ofChange octAddsWrong)

/- THE SECOND FORM. 'bulk': how many values and letters a reading holds, each counted each time it is reached (what is shared counts as often as it is met; a slice's spare places count too). A statement '..UptoSaid' is the law's where the arguments, and the package variables that the reading takes, are together of bulk at most 1048576: NARROWER than '..Said'. Prove '..Said' where nothing that the law and all that it calls make is longer than what came in: it says more and counts as full. Else prove '..UptoSaid'. A law counts once. -/
mutual
def uptoBulk {H : Type} : DataW H → Nat
  | .lit (.string bytes) => bytes.length + 1
  | .lit _ => 1
  | .nil => 1
  | .ptr d => uptoBulk d + 1
  | .slice elems spare => uptoBulkAll elems + uptoBulkAll spare + 1
  | .agg parts => uptoBulkAll parts + 1
  | .iface _ d => uptoBulk d + 1
  | .map entries => uptoBulkEntries entries + 1
  | .held _ => 1
def uptoBulkAll {H : Type} : List (DataW H) → Nat
  | [] => 0
  | d :: r => uptoBulk d + uptoBulkAll r
def uptoBulkEntries {H : Type} : List (Lit × DataW H) → Nat
  | [] => 0
  | x :: r => uptoBulkEntry x + uptoBulkEntries r
def uptoBulkEntry {H : Type} : Lit × DataW H → Nat
  | (.string bytes, d) => bytes.length + uptoBulk d + 1
  | (_, d) => uptoBulk d + 1
 end
def uptoSmall : (H : Type) → List (DataW H) → Bool := fun _ ds => decide (uptoBulkAll ds ≤ 1048576)
def OpenSpec.upto (s : _root_.Go.ChangeSpec) : _root_.Go.OpenSpec := { _root_.Go.OpenSpec.ofChange s with cond := some uptoSmall }

/-- 'causeylaw07.OctSums', WHERE WHAT IT READS IS OF BULK AT MOST 1048576: true; the input reads as it did. -/
def octSumsUptoRow : OpenClaim := { program := "ytbeeebnocliaiaa", sum := "cd330c68180858f94cc94aaf0c1788d4b25894af24ca724bd99b804b8f18e69d", func := "causey/causeylaw07.OctSums", spec := "octSums", inPlace := ["internal/abi.NoEscape", "internal/bytealg.MakeNoZero"], unfollowed := true, recurses := true, apart := false, narrowed := true }
def OctSumsUptoSaid : Prop := octSumsUptoRow.holds Try.pinned (OpenSpec.upto octSumsSpec)

/-- 'causeylaw07.OctAdds', WHERE WHAT IT READS IS OF BULK AT MOST 1048576: true; the input reads as it did. -/
def octAddsUptoRow : OpenClaim := { program := "ytbeeebnocliaiaa", sum := "cd330c68180858f94cc94aaf0c1788d4b25894af24ca724bd99b804b8f18e69d", func := "causey/causeylaw07.OctAdds", spec := "octAdds", inPlace := ["internal/abi.NoEscape", "internal/bytealg.MakeNoZero"], unfollowed := true, recurses := true, apart := false, narrowed := true }
def OctAddsUptoSaid : Prop := octAddsUptoRow.holds Try.pinned (OpenSpec.upto octAddsSpec)

end Rows
end Go.Proofs.Ytbeeebnocliaiaa

/-
  No cell of these rows narrows 'for every input' (looked for: loops, veiled, ifaces, maps, wideKeys, modest, calm, conditions, laid).
  DERIVED. THE GIVEN ROWS OF THIS SEAT. 4 by the template 'for every input the law returns true; each argument reads behind the call as it read before'; 0 by the template 'total and deterministic' (their statements: YtaoclfddamlcaaaTotals.lean).
  GIVEN WITH THE SEED: the statements are not yours to turn. If you find one false, say at which input.
  Laid BY PROGRAM, IN A SANDBOX (cutbox-rows.mjs): the forced cells as the released guide's own fill.sh prints them over the translation af422c8edcd13b11… (all of the seat's roots in one cut). By AI agents, Wed Nov 11 2026. No macro, syntax, notation, axiom, sorry.
-/
import Derived.Test.YtaoclfddamlcaaaChecked
import GoSem.Claim
import GoSem.ClaimJoined
import GoSem.ClaimMapViews
import Derived.JoinedTies
import Derived.KernelRfl
namespace Go.Proofs.Ytaoclfddamlcaaa
/- THE CELL 'sum', in the pinned program and in every row, IS THE sha256 OF THE DUMP (.gsa) THAT YtaoclfddamlcaaaProg.lean LOADS. Nothing in Lean hashes anything: it is a label: what it is worth is what the hold of that sum in a sandbox is worth. -/
noncomputable def Try.pinned : Pinned := { name := "ytaoclfddamlcaaa", sum := "af422c8edcd13b11fc82a052c09be0af6cdadeb703f63e7a25d9f588275416e8", checked := Try.checked }
namespace Rows
def none {H : Type} : Left H := { results := [], args := [] }

/-- 'causeylaw09.ArpBack': WHATEVER THE INPUT: true; the input reads as it did. -/
def arpBackSpec : ChangeSpec := { name := "arpBack", fn := fun _ => fun
  | [d1, d2] => { results := [.lit (.bool true)], args := [d1, d2] }
  | _ => none }
def arpBackRow : OpenClaim := { program := "ytaoclfddamlcaaa", sum := "af422c8edcd13b11fc82a052c09be0af6cdadeb703f63e7a25d9f588275416e8", func := "causey/causeylaw09.ArpBack", spec := "arpBack", unfollowed := true, recurses := true, apart := false }
def ArpBackSaid : Prop := arpBackRow.holds Try.pinned (OpenSpec.ofChange arpBackSpec)

/-- ITS FALSE NEIGHBOUR: 'it returns false'. Refute it at one input. -/
def arpBackWrong : ChangeSpec := { name := "arpBack", fn := fun _ => fun
  | [d1, d2] => { results := [.lit (.bool false)], args := [d1, d2] }
  | _ => none }
def ArpBackWrongFalsely : Prop := arpBackRow.holds Try.pinned (OpenSpec.ofChange arpBackWrong)

/-- 'causeylaw09.ArpFrames': WHATEVER THE INPUT: true; the input reads as it did. -/
def arpFramesSpec : ChangeSpec := { name := "arpFrames", fn := fun _ => fun
  | [d1, d2, d3, d4] => { results := [.lit (.bool true)], args := [d1, d2, d3, d4] }
  | _ => none }
def arpFramesRow : OpenClaim := { program := "ytaoclfddamlcaaa", sum := "af422c8edcd13b11fc82a052c09be0af6cdadeb703f63e7a25d9f588275416e8", func := "causey/causeylaw09.ArpFrames", spec := "arpFrames", unfollowed := true, recurses := true, apart := false }
def ArpFramesSaid : Prop := arpFramesRow.holds Try.pinned (OpenSpec.ofChange arpFramesSpec)

/-- ITS FALSE NEIGHBOUR: 'it returns false'. Refute it at one input. -/
def arpFramesWrong : ChangeSpec := { name := "arpFrames", fn := fun _ => fun
  | [d1, d2, d3, d4] => { results := [.lit (.bool false)], args := [d1, d2, d3, d4] }
  | _ => none }
def ArpFramesWrongFalsely : Prop := arpFramesRow.holds Try.pinned (OpenSpec.ofChange arpFramesWrong)

/-- 'causeylaw09.ArpPlays': WHATEVER THE INPUT: true; the input reads as it did. -/
def arpPlaysSpec : ChangeSpec := { name := "arpPlays", fn := fun _ => fun
  | [d1, d2] => { results := [.lit (.bool true)], args := [d1, d2] }
  | _ => none }
def arpPlaysRow : OpenClaim := { program := "ytaoclfddamlcaaa", sum := "af422c8edcd13b11fc82a052c09be0af6cdadeb703f63e7a25d9f588275416e8", func := "causey/causeylaw09.ArpPlays", spec := "arpPlays", unfollowed := true, recurses := true, apart := false }
def ArpPlaysSaid : Prop := arpPlaysRow.holds Try.pinned (OpenSpec.ofChange arpPlaysSpec)

/-- ITS FALSE NEIGHBOUR: 'it returns false'. Refute it at one input. -/
def arpPlaysWrong : ChangeSpec := { name := "arpPlays", fn := fun _ => fun
  | [d1, d2] => { results := [.lit (.bool false)], args := [d1, d2] }
  | _ => none }
def ArpPlaysWrongFalsely : Prop := arpPlaysRow.holds Try.pinned (OpenSpec.ofChange arpPlaysWrong)

/-- 'causeylaw09.ArpCut': WHATEVER THE INPUT: true; the input reads as it did. -/
def arpCutSpec : ChangeSpec := { name := "arpCut", fn := fun _ => fun
  | [d1, d2, d3] => { results := [.lit (.bool true)], args := [d1, d2, d3] }
  | _ => none }
def arpCutRow : OpenClaim := { program := "ytaoclfddamlcaaa", sum := "af422c8edcd13b11fc82a052c09be0af6cdadeb703f63e7a25d9f588275416e8", func := "causey/causeylaw09.ArpCut", spec := "arpCut", unfollowed := true, recurses := true, apart := false }
def ArpCutSaid : Prop := arpCutRow.holds Try.pinned (OpenSpec.ofChange arpCutSpec)

/-- ITS FALSE NEIGHBOUR: 'it returns false'. Refute it at one input. -/
def arpCutWrong : ChangeSpec := { name := "arpCut", fn := fun _ => fun
  | [d1, d2, d3] => { results := [.lit (.bool false)], args := [d1, d2, d3] }
  | _ => none }
def ArpCutWrongFalsely : Prop := arpCutRow.holds Try.pinned (OpenSpec.ofChange arpCutWrong)

/- THE SECOND FORM. 'bulk': how many values and letters a reading holds, each counted each time it is reached (what is shared counts as often as it is met; a slice's spare places count too). A statement '..UptoSaid' is the law's where the arguments, and the package variables that the reading takes, are together of bulk at most 1048576: NARROWER than '..Said'. Prove '..Said' where nothing that the law and all that it calls make is longer than what came in: it says more and counts as full. Else prove '..UptoSaid'. A law counts once. -/
mutual
def uptoBulk {H : Type} : DataW H → Nat
  | .lit (.string bytes) => bytes.length + 1
  | .lit _ => 1
  | .nil => 1
  | .ptr d => uptoBulk d + 1
  | .slice elems spare => uptoBulkAll elems + uptoBulkAll spare + 1
  | .agg parts => uptoBulkAll parts + 1
  | .iface _ d => uptoBulk d + 1
  | .map entries => uptoBulkEntries entries + 1
  | .held _ => 1
def uptoBulkAll {H : Type} : List (DataW H) → Nat
  | [] => 0
  | d :: r => uptoBulk d + uptoBulkAll r
def uptoBulkEntries {H : Type} : List (Lit × DataW H) → Nat
  | [] => 0
  | x :: r => uptoBulkEntry x + uptoBulkEntries r
def uptoBulkEntry {H : Type} : Lit × DataW H → Nat
  | (.string bytes, d) => bytes.length + uptoBulk d + 1
  | (_, d) => uptoBulk d + 1
 end
def uptoSmall : (H : Type) → List (DataW H) → Bool := fun _ ds => decide (uptoBulkAll ds ≤ 1048576)
def OpenSpec.upto (s : _root_.Go.ChangeSpec) : _root_.Go.OpenSpec := { _root_.Go.OpenSpec.ofChange s with cond := some uptoSmall }

/-- 'causeylaw09.ArpBack', WHERE WHAT IT READS IS OF BULK AT MOST 1048576: true; the input reads as it did. -/
def arpBackUptoRow : OpenClaim := { program := "ytaoclfddamlcaaa", sum := "af422c8edcd13b11fc82a052c09be0af6cdadeb703f63e7a25d9f588275416e8", func := "causey/causeylaw09.ArpBack", spec := "arpBack", unfollowed := true, recurses := true, apart := false, narrowed := true }
def ArpBackUptoSaid : Prop := arpBackUptoRow.holds Try.pinned (OpenSpec.upto arpBackSpec)

/-- 'causeylaw09.ArpFrames', WHERE WHAT IT READS IS OF BULK AT MOST 1048576: true; the input reads as it did. -/
def arpFramesUptoRow : OpenClaim := { program := "ytaoclfddamlcaaa", sum := "af422c8edcd13b11fc82a052c09be0af6cdadeb703f63e7a25d9f588275416e8", func := "causey/causeylaw09.ArpFrames", spec := "arpFrames", unfollowed := true, recurses := true, apart := false, narrowed := true }
def ArpFramesUptoSaid : Prop := arpFramesUptoRow.holds Try.pinned (OpenSpec.upto arpFramesSpec)

/-- 'causeylaw09.ArpPlays', WHERE WHAT IT READS IS OF BULK AT MOST 1048576: true; the input reads as it did. -/
def arpPlaysUptoRow : OpenClaim := { program := "ytaoclfddamlcaaa", sum := "af422c8edcd13b11fc82a052c09be0af6cdadeb703f63e7a25d9f588275416e8", func := "causey/causeylaw09.ArpPlays", spec := "arpPlays", unfollowed := true, recurses := true, apart := false, narrowed := true }
def ArpPlaysUptoSaid : Prop := arpPlaysUptoRow.holds Try.pinned (OpenSpec.upto arpPlaysSpec)

/-- 'causeylaw09.ArpCut', WHERE WHAT IT READS IS OF BULK AT MOST 1048576: true; the input reads as it did. -/
def arpCutUptoRow : OpenClaim := { program := "ytaoclfddamlcaaa", sum := "af422c8edcd13b11fc82a052c09be0af6cdadeb703f63e7a25d9f588275416e8", func := "causey/causeylaw09.ArpCut", spec := "arpCut", unfollowed := true, recurses := true, apart := false, narrowed := true }
def ArpCutUptoSaid : Prop := arpCutUptoRow.holds Try.pinned (OpenSpec.upto arpCutSpec)

end Rows
end Go.Proofs.Ytaoclfddamlcaaa

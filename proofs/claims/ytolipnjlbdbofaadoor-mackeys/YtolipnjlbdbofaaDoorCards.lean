/-
  DERIVED. GIVEN WITH THE SEED: THE CARDS: each row of YtolipnjlbdbofaaDoorRows.lean that lists a variable, with what it lists TIED to the program's text (the seventh form; the later family's looks); each row that meets fmt, with fmt's text TOLD by the authors' own Lean function (tested against real Go, not proved from fmt's source: count such statements apart). THE CARD IS WHAT COUNTS. Prove the row's statement (the work); the ties are given (YtolipnjlbdbofaaDoorTie.lean); close each card by the builder's one call (the guide's Derived/Test/ToyasCard.lean, 'card_holds'). Laid BY PROGRAM, IN A SANDBOX (cutbox-door.mjs). By AI agents, Wed Nov 11 2026. No macro, syntax, notation, axiom, sorry.
-/
import Derived.Test.YtolipnjlbdbofaaDoorRows
import GoSem.ClaimSeven
namespace Go.Proofs.YtolipnjlbdbofaaDoor
namespace Rows

/-- THE TIED CARD OF 'causeylaw02.MacFills'. -/
def macFillsCard : Claim7 := { stood := { row := macFillsRow, standIns := [], harness := (true, "4b4fc0911a5fb1d52772d75e599d5512713c054fb828ea2253ee3a8d9b2be1b4"), looks := false }, kinds := [], alts := [], laidByText := true, laidKinds := [.data], laidTests := true, laidLooks := .later }
def MacFillsCardSaid : Prop := Claim7.holds Tryd.pinned (.plain (OpenSpec.ofChange macFillsSpec)) macFillsCard

/-- THE TIED CARD OF 'causeylaw02.MacFirst'. -/
def macFirstCard : Claim7 := { stood := { row := macFirstRow, standIns := [], harness := (true, "4b4fc0911a5fb1d52772d75e599d5512713c054fb828ea2253ee3a8d9b2be1b4"), looks := false }, kinds := [], alts := [], laidByText := true, laidKinds := [.data], laidTests := true, laidLooks := .later }
def MacFirstCardSaid : Prop := Claim7.holds Tryd.pinned (.plain (OpenSpec.ofChange macFirstSpec)) macFirstCard

/-- THE TIED CARD OF 'causeylaw02.MacPlays'. -/
def macPlaysCard : Claim7 := { stood := { row := macPlaysRow, standIns := [], harness := (true, "4b4fc0911a5fb1d52772d75e599d5512713c054fb828ea2253ee3a8d9b2be1b4"), looks := false }, kinds := [], alts := [], laidByText := true, laidKinds := [.data], laidTests := true, laidLooks := .later }
def MacPlaysCardSaid : Prop := Claim7.holds Tryd.pinned (.plain (OpenSpec.ofChange macPlaysSpec)) macPlaysCard

/-- THE TIED CARD OF 'causeylaw02.MacSame'. -/
def macSameCard : Claim7 := { stood := { row := macSameRow, standIns := [], harness := (true, "4b4fc0911a5fb1d52772d75e599d5512713c054fb828ea2253ee3a8d9b2be1b4"), looks := false }, kinds := [], alts := [], laidByText := true, laidKinds := [.data], laidTests := true, laidLooks := .later }
def MacSameCardSaid : Prop := Claim7.holds Tryd.pinned (.plain (OpenSpec.ofChange macSameSpec)) macSameCard

/-- THE TIED CARD OF 'causeylaw02.MacKeys'. -/
def macKeysCard : Claim7 := { stood := { row := macKeysRow, standIns := [], harness := (true, "4b4fc0911a5fb1d52772d75e599d5512713c054fb828ea2253ee3a8d9b2be1b4"), looks := false }, kinds := [], alts := [], laidByText := true, laidKinds := [.data], laidTests := true, laidLooks := .later }
def MacKeysCardSaid : Prop := Claim7.holds Tryd.pinned (.plain (OpenSpec.ofChange macKeysSpec)) macKeysCard

/-- THE SECOND FORM's CARD OF 'causeylaw02.MacFills'. -/
def macFillsUptoCard : Claim7 := { stood := { row := macFillsUptoRow, standIns := [], harness := (true, "4b4fc0911a5fb1d52772d75e599d5512713c054fb828ea2253ee3a8d9b2be1b4"), looks := false }, kinds := [], alts := [], laidByText := true, laidKinds := [.data], laidTests := true, laidLooks := .later }
def MacFillsUptoCardSaid : Prop := Claim7.holds Tryd.pinned (.plain (OpenSpec.upto macFillsSpec)) macFillsUptoCard

/-- THE SECOND FORM's CARD OF 'causeylaw02.MacFirst'. -/
def macFirstUptoCard : Claim7 := { stood := { row := macFirstUptoRow, standIns := [], harness := (true, "4b4fc0911a5fb1d52772d75e599d5512713c054fb828ea2253ee3a8d9b2be1b4"), looks := false }, kinds := [], alts := [], laidByText := true, laidKinds := [.data], laidTests := true, laidLooks := .later }
def MacFirstUptoCardSaid : Prop := Claim7.holds Tryd.pinned (.plain (OpenSpec.upto macFirstSpec)) macFirstUptoCard

/-- THE SECOND FORM's CARD OF 'causeylaw02.MacPlays'. -/
def macPlaysUptoCard : Claim7 := { stood := { row := macPlaysUptoRow, standIns := [], harness := (true, "4b4fc0911a5fb1d52772d75e599d5512713c054fb828ea2253ee3a8d9b2be1b4"), looks := false }, kinds := [], alts := [], laidByText := true, laidKinds := [.data], laidTests := true, laidLooks := .later }
def MacPlaysUptoCardSaid : Prop := Claim7.holds Tryd.pinned (.plain (OpenSpec.upto macPlaysSpec)) macPlaysUptoCard

/-- THE SECOND FORM's CARD OF 'causeylaw02.MacSame'. -/
def macSameUptoCard : Claim7 := { stood := { row := macSameUptoRow, standIns := [], harness := (true, "4b4fc0911a5fb1d52772d75e599d5512713c054fb828ea2253ee3a8d9b2be1b4"), looks := false }, kinds := [], alts := [], laidByText := true, laidKinds := [.data], laidTests := true, laidLooks := .later }
def MacSameUptoCardSaid : Prop := Claim7.holds Tryd.pinned (.plain (OpenSpec.upto macSameSpec)) macSameUptoCard

/-- THE SECOND FORM's CARD OF 'causeylaw02.MacKeys'. -/
def macKeysUptoCard : Claim7 := { stood := { row := macKeysUptoRow, standIns := [], harness := (true, "4b4fc0911a5fb1d52772d75e599d5512713c054fb828ea2253ee3a8d9b2be1b4"), looks := false }, kinds := [], alts := [], laidByText := true, laidKinds := [.data], laidTests := true, laidLooks := .later }
def MacKeysUptoCardSaid : Prop := Claim7.holds Tryd.pinned (.plain (OpenSpec.upto macKeysSpec)) macKeysUptoCard
end Rows
end Go.Proofs.YtolipnjlbdbofaaDoor

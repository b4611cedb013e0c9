/-
  DERIVED. GIVEN WITH THE SEED: THE CARDS: each row of YtpkmhdnpnbkhiaaDoorRows.lean that lists a variable, with what it lists TIED to the program's text (the seventh form; the later family's looks); each row that meets fmt, with fmt's text TOLD by the authors' own Lean function (tested against real Go, not proved from fmt's source: count such statements apart). THE CARD IS WHAT COUNTS. Prove the row's statement (the work); the ties are given (YtpkmhdnpnbkhiaaDoorTie.lean); close each card by the builder's one call (the guide's Derived/Test/ToyasCard.lean, 'card_holds'). Laid BY PROGRAM, IN A SANDBOX (cutbox-door.mjs). By AI agents, Wed Nov 11 2026. No macro, syntax, notation, axiom, sorry.
-/
import Derived.Test.YtpkmhdnpnbkhiaaDoorRows
import GoSem.ClaimSeven
namespace Go.Proofs.YtpkmhdnpnbkhiaaDoor
namespace Rows

/-- THE TIED CARD OF 'causeylaw01.ShaFills'. -/
def shaFillsCard : Claim7 := { stood := { row := shaFillsRow, standIns := [], harness := (true, "076ccc9965e45dbdd745376ecc990632fe12279f33b1a175d2cc08be59d43805"), looks := false }, kinds := [], alts := [], laidByText := true, laidKinds := [.data], laidTests := true, laidLooks := .later }
def ShaFillsCardSaid : Prop := Claim7.holds Tryd.pinned (.plain (OpenSpec.ofChange shaFillsSpec)) shaFillsCard

/-- THE TIED CARD OF 'causeylaw01.ShaBlocks'. -/
def shaBlocksCard : Claim7 := { stood := { row := shaBlocksRow, standIns := [], harness := (true, "076ccc9965e45dbdd745376ecc990632fe12279f33b1a175d2cc08be59d43805"), looks := false }, kinds := [], alts := [], laidByText := true, laidKinds := [.data], laidTests := true, laidLooks := .later }
def ShaBlocksCardSaid : Prop := Claim7.holds Tryd.pinned (.plain (OpenSpec.ofChange shaBlocksSpec)) shaBlocksCard

/-- THE TIED CARD OF 'causeylaw01.ShaPlays'. -/
def shaPlaysCard : Claim7 := { stood := { row := shaPlaysRow, standIns := [], harness := (true, "076ccc9965e45dbdd745376ecc990632fe12279f33b1a175d2cc08be59d43805"), looks := false }, kinds := [], alts := [], laidByText := true, laidKinds := [.data], laidTests := true, laidLooks := .later }
def ShaPlaysCardSaid : Prop := Claim7.holds Tryd.pinned (.plain (OpenSpec.ofChange shaPlaysSpec)) shaPlaysCard

/-- THE TIED CARD OF 'causeylaw01.ShaRoots'. -/
def shaRootsCard : Claim7 := { stood := { row := shaRootsRow, standIns := [], harness := (true, "076ccc9965e45dbdd745376ecc990632fe12279f33b1a175d2cc08be59d43805"), looks := false }, kinds := [], alts := [], laidByText := true, laidKinds := [.data], laidTests := true, laidLooks := .later }
def ShaRootsCardSaid : Prop := Claim7.holds Tryd.pinned (.plain (OpenSpec.ofChange shaRootsSpec)) shaRootsCard

/-- THE TIED CARD OF 'causeylaw01.ShaPrimes'. -/
def shaPrimesCard : Claim7 := { stood := { row := shaPrimesRow, standIns := [], harness := (true, "076ccc9965e45dbdd745376ecc990632fe12279f33b1a175d2cc08be59d43805"), looks := false }, kinds := [], alts := [], laidByText := true, laidKinds := [.data], laidTests := true, laidLooks := .later }
def ShaPrimesCardSaid : Prop := Claim7.holds Tryd.pinned (.plain (OpenSpec.ofChange shaPrimesSpec)) shaPrimesCard

/-- THE TIED CARD OF 'causeylaw01.ShaWhole'. -/
def shaWholeCard : Claim7 := { stood := { row := shaWholeRow, standIns := [], harness := (true, "076ccc9965e45dbdd745376ecc990632fe12279f33b1a175d2cc08be59d43805"), looks := false }, kinds := [], alts := [], laidByText := true, laidKinds := [.data], laidTests := true, laidLooks := .later }
def ShaWholeCardSaid : Prop := Claim7.holds Tryd.pinned (.plain (OpenSpec.ofChange shaWholeSpec)) shaWholeCard

/-- THE TIED CARD OF 'causeylaw01.ShaFirst'. -/
def shaFirstCard : Claim7 := { stood := { row := shaFirstRow, standIns := [], harness := (true, "076ccc9965e45dbdd745376ecc990632fe12279f33b1a175d2cc08be59d43805"), looks := false }, kinds := [], alts := [], laidByText := true, laidKinds := [.data], laidTests := true, laidLooks := .later }
def ShaFirstCardSaid : Prop := Claim7.holds Tryd.pinned (.plain (OpenSpec.ofChange shaFirstSpec)) shaFirstCard

/-- THE SECOND FORM's CARD OF 'causeylaw01.ShaFills'. -/
def shaFillsUptoCard : Claim7 := { stood := { row := shaFillsUptoRow, standIns := [], harness := (true, "076ccc9965e45dbdd745376ecc990632fe12279f33b1a175d2cc08be59d43805"), looks := false }, kinds := [], alts := [], laidByText := true, laidKinds := [.data], laidTests := true, laidLooks := .later }
def ShaFillsUptoCardSaid : Prop := Claim7.holds Tryd.pinned (.plain (OpenSpec.upto shaFillsSpec)) shaFillsUptoCard

/-- THE SECOND FORM's CARD OF 'causeylaw01.ShaBlocks'. -/
def shaBlocksUptoCard : Claim7 := { stood := { row := shaBlocksUptoRow, standIns := [], harness := (true, "076ccc9965e45dbdd745376ecc990632fe12279f33b1a175d2cc08be59d43805"), looks := false }, kinds := [], alts := [], laidByText := true, laidKinds := [.data], laidTests := true, laidLooks := .later }
def ShaBlocksUptoCardSaid : Prop := Claim7.holds Tryd.pinned (.plain (OpenSpec.upto shaBlocksSpec)) shaBlocksUptoCard

/-- THE SECOND FORM's CARD OF 'causeylaw01.ShaPlays'. -/
def shaPlaysUptoCard : Claim7 := { stood := { row := shaPlaysUptoRow, standIns := [], harness := (true, "076ccc9965e45dbdd745376ecc990632fe12279f33b1a175d2cc08be59d43805"), looks := false }, kinds := [], alts := [], laidByText := true, laidKinds := [.data], laidTests := true, laidLooks := .later }
def ShaPlaysUptoCardSaid : Prop := Claim7.holds Tryd.pinned (.plain (OpenSpec.upto shaPlaysSpec)) shaPlaysUptoCard

/-- THE SECOND FORM's CARD OF 'causeylaw01.ShaRoots'. -/
def shaRootsUptoCard : Claim7 := { stood := { row := shaRootsUptoRow, standIns := [], harness := (true, "076ccc9965e45dbdd745376ecc990632fe12279f33b1a175d2cc08be59d43805"), looks := false }, kinds := [], alts := [], laidByText := true, laidKinds := [.data], laidTests := true, laidLooks := .later }
def ShaRootsUptoCardSaid : Prop := Claim7.holds Tryd.pinned (.plain (OpenSpec.upto shaRootsSpec)) shaRootsUptoCard

/-- THE SECOND FORM's CARD OF 'causeylaw01.ShaPrimes'. -/
def shaPrimesUptoCard : Claim7 := { stood := { row := shaPrimesUptoRow, standIns := [], harness := (true, "076ccc9965e45dbdd745376ecc990632fe12279f33b1a175d2cc08be59d43805"), looks := false }, kinds := [], alts := [], laidByText := true, laidKinds := [.data], laidTests := true, laidLooks := .later }
def ShaPrimesUptoCardSaid : Prop := Claim7.holds Tryd.pinned (.plain (OpenSpec.upto shaPrimesSpec)) shaPrimesUptoCard

/-- THE SECOND FORM's CARD OF 'causeylaw01.ShaWhole'. -/
def shaWholeUptoCard : Claim7 := { stood := { row := shaWholeUptoRow, standIns := [], harness := (true, "076ccc9965e45dbdd745376ecc990632fe12279f33b1a175d2cc08be59d43805"), looks := false }, kinds := [], alts := [], laidByText := true, laidKinds := [.data], laidTests := true, laidLooks := .later }
def ShaWholeUptoCardSaid : Prop := Claim7.holds Tryd.pinned (.plain (OpenSpec.upto shaWholeSpec)) shaWholeUptoCard

/-- THE SECOND FORM's CARD OF 'causeylaw01.ShaFirst'. -/
def shaFirstUptoCard : Claim7 := { stood := { row := shaFirstUptoRow, standIns := [], harness := (true, "076ccc9965e45dbdd745376ecc990632fe12279f33b1a175d2cc08be59d43805"), looks := false }, kinds := [], alts := [], laidByText := true, laidKinds := [.data], laidTests := true, laidLooks := .later }
def ShaFirstUptoCardSaid : Prop := Claim7.holds Tryd.pinned (.plain (OpenSpec.upto shaFirstSpec)) shaFirstUptoCard
end Rows
end Go.Proofs.YtpkmhdnpnbkhiaaDoor

/-
  DERIVED. GIVEN WITH THE SEED: THE CARDS: each row of YtomahbdidlglfacGreatDoorRows.lean that lists a variable, with what it lists TIED to the program's text (the seventh form; the later family's looks); each row that meets fmt, with fmt's text TOLD by the authors' own Lean function (tested against real Go, not proved from fmt's source: count such statements apart). THE CARD IS WHAT COUNTS. Prove the row's statement (the work); the ties are given (YtomahbdidlglfacGreatDoorTie.lean); close each card by the builder's one call (the guide's Derived/Test/ToyasCard.lean, 'card_holds'). Laid BY PROGRAM, IN A SANDBOX (cutbox-door.mjs). By AI agents, Wed Nov 11 2026. No macro, syntax, notation, axiom, sorry.
-/
import Derived.Test.YtomahbdidlglfacGreatDoorRows
import GoSem.ClaimSeven
namespace Go.Proofs.YtomahbdidlglfacGreatDoor
namespace Rows

/-- THE TIED CARD OF 'xclaw5.PlainSame'. -/
def plainSameCard : Claim7 := { stood := { row := plainSameRow, standIns := [], harness := (true, "9abc2829dc2b6c492a2abe37455cf69c0c6d361b648d5da31d79382772f6ab41"), looks := true }, kinds := [], alts := [], laidByText := true, laidKinds := [.data, .data, .data, .sentinel, .sentinel], laidTests := true, laidLooks := .later }
def PlainSameCardSaid : Prop := Claim7.holds Tryz.pinned (.plain (OpenSpec.ofChange plainSameSpec)) plainSameCard

/-- THE TIED CARD OF 'xclaw6.OwnErase'. -/
def ownEraseCard : Claim7 := { stood := { row := ownEraseRow, standIns := [], harness := (true, "9abc2829dc2b6c492a2abe37455cf69c0c6d361b648d5da31d79382772f6ab41"), looks := true }, kinds := [], alts := [], laidByText := true, laidKinds := [.data, .data, .data, .sentinel, .sentinel], laidTests := true, laidLooks := .later }
def OwnEraseCardSaid : Prop := Claim7.holds Tryz.pinned (.plain (OpenSpec.ofChange ownEraseSpec)) ownEraseCard

/-- THE SECOND FORM's CARD OF 'xclaw5.PlainSame'. -/
def plainSameUptoCard : Claim7 := { stood := { row := plainSameUptoRow, standIns := [], harness := (true, "9abc2829dc2b6c492a2abe37455cf69c0c6d361b648d5da31d79382772f6ab41"), looks := true }, kinds := [], alts := [], laidByText := true, laidKinds := [.data, .data, .data, .sentinel, .sentinel], laidTests := true, laidLooks := .later }
def PlainSameUptoCardSaid : Prop := Claim7.holds Tryz.pinned (.plain (OpenSpec.upto plainSameSpec)) plainSameUptoCard

/-- THE SECOND FORM's CARD OF 'xclaw6.OwnErase'. -/
def ownEraseUptoCard : Claim7 := { stood := { row := ownEraseUptoRow, standIns := [], harness := (true, "9abc2829dc2b6c492a2abe37455cf69c0c6d361b648d5da31d79382772f6ab41"), looks := true }, kinds := [], alts := [], laidByText := true, laidKinds := [.data, .data, .data, .sentinel, .sentinel], laidTests := true, laidLooks := .later }
def OwnEraseUptoCardSaid : Prop := Claim7.holds Tryz.pinned (.plain (OpenSpec.upto ownEraseSpec)) ownEraseUptoCard
end Rows
end Go.Proofs.YtomahbdidlglfacGreatDoor

/-
  DERIVED. GIVEN WITH THE SEED: THE CARDS: each row of YtdgmengfdfkgaabDoorRows.lean that lists a variable, with what it lists TIED to the program's text (the seventh form; the later family's looks); each row that meets fmt, with fmt's text TOLD by the authors' own Lean function (tested against real Go, not proved from fmt's source: count such statements apart). THE CARD IS WHAT COUNTS. Prove the row's statement (the work); the ties are given (YtdgmengfdfkgaabDoorTie.lean); close each card by the builder's one call (the guide's Derived/Test/ToyasCard.lean, 'card_holds'). Laid BY PROGRAM, IN A SANDBOX (cutbox-door.mjs). By AI agents, Wed Nov 11 2026. No macro, syntax, notation, axiom, sorry.
-/
import Derived.Test.YtdgmengfdfkgaabDoorRows
import GoSem.ClaimSeven
namespace Go.Proofs.YtdgmengfdfkgaabDoor
namespace Rows

/-- THE TIED CARD OF 'xclaw3.EvalFuel'. -/
def evalFuelCard : Claim7 := { stood := { row := evalFuelRow, standIns := [], harness := (true, "69489d47c1b2064c4c8fde5359935f5a64ffd05a26b63d66b5fe3ed49091e917"), looks := true }, kinds := [], alts := [], laidByText := true, laidKinds := [.data, .data, .data, .sentinel, .sentinel], laidTests := true, laidLooks := .later }
def EvalFuelCardSaid : Prop := Claim7.holds Tryd.pinned (.plain (OpenSpec.ofChange evalFuelSpec)) evalFuelCard

/-- THE TIED CARD OF 'xclaw3.EvalUnused'. -/
def evalUnusedCard : Claim7 := { stood := { row := evalUnusedRow, standIns := [], harness := (true, "69489d47c1b2064c4c8fde5359935f5a64ffd05a26b63d66b5fe3ed49091e917"), looks := true }, kinds := [], alts := [], laidByText := true, laidKinds := [.data, .data, .data, .sentinel, .sentinel], laidTests := true, laidLooks := .later }
def EvalUnusedCardSaid : Prop := Claim7.holds Tryd.pinned (.plain (OpenSpec.ofChange evalUnusedSpec)) evalUnusedCard

/-- THE TIED CARD OF 'xclaw4.NamesTells'. -/
def namesTellsCard : Claim7 := { stood := { row := namesTellsRow, standIns := [], harness := (true, "69489d47c1b2064c4c8fde5359935f5a64ffd05a26b63d66b5fe3ed49091e917"), looks := true }, kinds := [], alts := [], laidByText := true, laidKinds := [.data, .data, .data], laidTests := true, laidLooks := .later }
def NamesTellsCardSaid : Prop := Claim7.holds Tryd.pinned (.plain (OpenSpec.ofChange namesTellsSpec)) namesTellsCard

/-- THE TIED CARD OF 'xclaw4.NamesSame'. -/
def namesSameCard : Claim7 := { stood := { row := namesSameRow, standIns := [], harness := (true, "69489d47c1b2064c4c8fde5359935f5a64ffd05a26b63d66b5fe3ed49091e917"), looks := true }, kinds := [], alts := [], laidByText := true, laidKinds := [.data, .data, .data, .sentinel, .sentinel], laidTests := true, laidLooks := .later }
def NamesSameCardSaid : Prop := Claim7.holds Tryd.pinned (.plain (OpenSpec.ofChange namesSameSpec)) namesSameCard

/-- THE TIED CARD OF 'xclaw4.NamesOnce'. -/
def namesOnceCard : Claim7 := { stood := { row := namesOnceRow, standIns := [], harness := (true, "69489d47c1b2064c4c8fde5359935f5a64ffd05a26b63d66b5fe3ed49091e917"), looks := true }, kinds := [], alts := [], laidByText := true, laidKinds := [.data, .data, .data, .sentinel, .sentinel], laidTests := true, laidLooks := .later }
def NamesOnceCardSaid : Prop := Claim7.holds Tryd.pinned (.plain (OpenSpec.ofChange namesOnceSpec)) namesOnceCard

/-- THE SECOND FORM's CARD OF 'xclaw3.EvalFuel'. -/
def evalFuelUptoCard : Claim7 := { stood := { row := evalFuelUptoRow, standIns := [], harness := (true, "69489d47c1b2064c4c8fde5359935f5a64ffd05a26b63d66b5fe3ed49091e917"), looks := true }, kinds := [], alts := [], laidByText := true, laidKinds := [.data, .data, .data, .sentinel, .sentinel], laidTests := true, laidLooks := .later }
def EvalFuelUptoCardSaid : Prop := Claim7.holds Tryd.pinned (.plain (OpenSpec.upto evalFuelSpec)) evalFuelUptoCard

/-- THE SECOND FORM's CARD OF 'xclaw3.EvalUnused'. -/
def evalUnusedUptoCard : Claim7 := { stood := { row := evalUnusedUptoRow, standIns := [], harness := (true, "69489d47c1b2064c4c8fde5359935f5a64ffd05a26b63d66b5fe3ed49091e917"), looks := true }, kinds := [], alts := [], laidByText := true, laidKinds := [.data, .data, .data, .sentinel, .sentinel], laidTests := true, laidLooks := .later }
def EvalUnusedUptoCardSaid : Prop := Claim7.holds Tryd.pinned (.plain (OpenSpec.upto evalUnusedSpec)) evalUnusedUptoCard

/-- THE SECOND FORM's CARD OF 'xclaw4.NamesTells'. -/
def namesTellsUptoCard : Claim7 := { stood := { row := namesTellsUptoRow, standIns := [], harness := (true, "69489d47c1b2064c4c8fde5359935f5a64ffd05a26b63d66b5fe3ed49091e917"), looks := true }, kinds := [], alts := [], laidByText := true, laidKinds := [.data, .data, .data], laidTests := true, laidLooks := .later }
def NamesTellsUptoCardSaid : Prop := Claim7.holds Tryd.pinned (.plain (OpenSpec.upto namesTellsSpec)) namesTellsUptoCard

/-- THE SECOND FORM's CARD OF 'xclaw4.NamesSame'. -/
def namesSameUptoCard : Claim7 := { stood := { row := namesSameUptoRow, standIns := [], harness := (true, "69489d47c1b2064c4c8fde5359935f5a64ffd05a26b63d66b5fe3ed49091e917"), looks := true }, kinds := [], alts := [], laidByText := true, laidKinds := [.data, .data, .data, .sentinel, .sentinel], laidTests := true, laidLooks := .later }
def NamesSameUptoCardSaid : Prop := Claim7.holds Tryd.pinned (.plain (OpenSpec.upto namesSameSpec)) namesSameUptoCard

/-- THE SECOND FORM's CARD OF 'xclaw4.NamesOnce'. -/
def namesOnceUptoCard : Claim7 := { stood := { row := namesOnceUptoRow, standIns := [], harness := (true, "69489d47c1b2064c4c8fde5359935f5a64ffd05a26b63d66b5fe3ed49091e917"), looks := true }, kinds := [], alts := [], laidByText := true, laidKinds := [.data, .data, .data, .sentinel, .sentinel], laidTests := true, laidLooks := .later }
def NamesOnceUptoCardSaid : Prop := Claim7.holds Tryd.pinned (.plain (OpenSpec.upto namesOnceSpec)) namesOnceUptoCard
end Rows
end Go.Proofs.YtdgmengfdfkgaabDoor

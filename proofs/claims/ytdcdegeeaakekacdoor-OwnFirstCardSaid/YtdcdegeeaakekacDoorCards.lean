/-
  DERIVED. GIVEN WITH THE SEED: THE CARDS: each row of YtdcdegeeaakekacDoorRows.lean that lists a variable, with what it lists TIED to the program's text (the seventh form; the later family's looks); each row that meets fmt, with fmt's text TOLD by the authors' own Lean function (tested against real Go, not proved from fmt's source: count such statements apart). THE CARD IS WHAT COUNTS. Prove the row's statement (the work); the ties are given (YtdcdegeeaakekacDoorTie.lean); close each card by the builder's one call (the guide's Derived/Test/ToyasCard.lean, 'card_holds'). Laid BY PROGRAM, IN A SANDBOX (cutbox-door.mjs). By AI agents, Wed Nov 11 2026. No macro, syntax, notation, axiom, sorry.
-/
import Derived.Test.YtdcdegeeaakekacDoorRows
import GoSem.ClaimSeven
namespace Go.Proofs.YtdcdegeeaakekacDoor
namespace Rows

/-- THE TIED CARD OF 'xclaw5.PlainNeeds'. -/
def plainNeedsCard : Claim7 := { stood := { row := plainNeedsRow, standIns := [], harness := (true, "f7c32eb8adc1f84457ae856cf38bc0de688e1d557577f11b5d8fd9b7a521bf0c"), looks := true }, kinds := [], alts := [], laidByText := true, laidKinds := [.data, .data, .data, .sentinel, .sentinel], laidTests := true, laidLooks := .later }
def PlainNeedsCardSaid : Prop := Claim7.holds Tryd.pinned (.plain (OpenSpec.ofChange plainNeedsSpec)) plainNeedsCard

/-- THE TIED CARD OF 'xclaw6.OwnTells'. -/
def ownTellsCard : Claim7 := { stood := { row := ownTellsRow, standIns := [], harness := (true, "f7c32eb8adc1f84457ae856cf38bc0de688e1d557577f11b5d8fd9b7a521bf0c"), looks := true }, kinds := [], alts := [], laidByText := true, laidKinds := [.data, .data, .data], laidTests := true, laidLooks := .later }
def OwnTellsCardSaid : Prop := Claim7.holds Tryd.pinned (.plain (OpenSpec.ofChange ownTellsSpec)) ownTellsCard

/-- THE TIED CARD OF 'xclaw6.OwnFirst'. -/
def ownFirstCard : Claim7 := { stood := { row := ownFirstRow, standIns := [], harness := (true, "f7c32eb8adc1f84457ae856cf38bc0de688e1d557577f11b5d8fd9b7a521bf0c"), looks := true }, kinds := [], alts := [], laidByText := true, laidKinds := [.data, .data, .data, .sentinel, .sentinel], laidTests := true, laidLooks := .later }
def OwnFirstCardSaid : Prop := Claim7.holds Tryd.pinned (.plain (OpenSpec.ofChange ownFirstSpec)) ownFirstCard

/-- THE SECOND FORM's CARD OF 'xclaw5.PlainNeeds'. -/
def plainNeedsUptoCard : Claim7 := { stood := { row := plainNeedsUptoRow, standIns := [], harness := (true, "f7c32eb8adc1f84457ae856cf38bc0de688e1d557577f11b5d8fd9b7a521bf0c"), looks := true }, kinds := [], alts := [], laidByText := true, laidKinds := [.data, .data, .data, .sentinel, .sentinel], laidTests := true, laidLooks := .later }
def PlainNeedsUptoCardSaid : Prop := Claim7.holds Tryd.pinned (.plain (OpenSpec.upto plainNeedsSpec)) plainNeedsUptoCard

/-- THE SECOND FORM's CARD OF 'xclaw6.OwnTells'. -/
def ownTellsUptoCard : Claim7 := { stood := { row := ownTellsUptoRow, standIns := [], harness := (true, "f7c32eb8adc1f84457ae856cf38bc0de688e1d557577f11b5d8fd9b7a521bf0c"), looks := true }, kinds := [], alts := [], laidByText := true, laidKinds := [.data, .data, .data], laidTests := true, laidLooks := .later }
def OwnTellsUptoCardSaid : Prop := Claim7.holds Tryd.pinned (.plain (OpenSpec.upto ownTellsSpec)) ownTellsUptoCard

/-- THE SECOND FORM's CARD OF 'xclaw6.OwnFirst'. -/
def ownFirstUptoCard : Claim7 := { stood := { row := ownFirstUptoRow, standIns := [], harness := (true, "f7c32eb8adc1f84457ae856cf38bc0de688e1d557577f11b5d8fd9b7a521bf0c"), looks := true }, kinds := [], alts := [], laidByText := true, laidKinds := [.data, .data, .data, .sentinel, .sentinel], laidTests := true, laidLooks := .later }
def OwnFirstUptoCardSaid : Prop := Claim7.holds Tryd.pinned (.plain (OpenSpec.upto ownFirstSpec)) ownFirstUptoCard
end Rows
end Go.Proofs.YtdcdegeeaakekacDoor

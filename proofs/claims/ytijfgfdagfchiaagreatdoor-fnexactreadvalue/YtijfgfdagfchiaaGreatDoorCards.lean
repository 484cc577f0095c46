/-
  DERIVED. GIVEN WITH THE SEED: THE CARDS: each row of YtijfgfdagfchiaaGreatDoorRows.lean that lists a variable, with what it lists TIED to the program's text (the seventh form; the later family's looks); each row that meets fmt, with fmt's text TOLD by the authors' own Lean function (tested against real Go, not proved from fmt's source: count such statements apart). THE CARD IS WHAT COUNTS. Prove the row's statement (the work); the ties are given (YtijfgfdagfchiaaGreatDoorTie.lean); close each card by the builder's one call (the guide's Derived/Test/ToyasCard.lean, 'card_holds'). Laid BY PROGRAM, IN A SANDBOX (cutbox-door.mjs). By AI agents, Wed Nov 11 2026. No macro, syntax, notation, axiom, sorry.
-/
import Derived.Test.YtijfgfdagfchiaaGreatDoorRows
import GoSem.ClaimSeven
namespace Go.Proofs.YtijfgfdagfchiaaGreatDoor
namespace Rows

/-- THE TIED CARD OF 'laws.FnExactReadAtom'. -/
def fnExactReadAtomCard : Claim7 := { stood := { row := fnExactReadAtomRow, standIns := [], harness := (true, "2f3e2cbe07dc248667d37b29720da327fead2a06f03020b4fac5e49c8efb0577"), looks := true }, kinds := [], alts := [], laidByText := true, laidKinds := [.data, .data, .data, .data, .sentinel, .sentinel, .pinned], laidTests := true, laidLooks := .later }
def FnExactReadAtomCardSaid : Prop := Claim7.holds Tryz.pinned (.plain (OpenSpec.ofChange fnExactReadAtomSpec)) fnExactReadAtomCard

/-- THE TIED CARD OF 'laws.FnExactReadValue'. -/
def fnExactReadValueCard : Claim7 := { stood := { row := fnExactReadValueRow, standIns := [], harness := (true, "2f3e2cbe07dc248667d37b29720da327fead2a06f03020b4fac5e49c8efb0577"), looks := true }, kinds := [], alts := [], laidByText := true, laidKinds := [.data, .data, .data, .data, .sentinel, .sentinel, .pinned], laidTests := true, laidLooks := .later }
def FnExactReadValueCardSaid : Prop := Claim7.holds Tryz.pinned (.plain (OpenSpec.ofChange fnExactReadValueSpec)) fnExactReadValueCard

/-- THE SECOND FORM's CARD OF 'laws.FnExactReadAtom'. -/
def fnExactReadAtomUptoCard : Claim7 := { stood := { row := fnExactReadAtomUptoRow, standIns := [], harness := (true, "2f3e2cbe07dc248667d37b29720da327fead2a06f03020b4fac5e49c8efb0577"), looks := true }, kinds := [], alts := [], laidByText := true, laidKinds := [.data, .data, .data, .data, .sentinel, .sentinel, .pinned], laidTests := true, laidLooks := .later }
def FnExactReadAtomUptoCardSaid : Prop := Claim7.holds Tryz.pinned (.plain (OpenSpec.upto fnExactReadAtomSpec)) fnExactReadAtomUptoCard

/-- THE SECOND FORM's CARD OF 'laws.FnExactReadValue'. -/
def fnExactReadValueUptoCard : Claim7 := { stood := { row := fnExactReadValueUptoRow, standIns := [], harness := (true, "2f3e2cbe07dc248667d37b29720da327fead2a06f03020b4fac5e49c8efb0577"), looks := true }, kinds := [], alts := [], laidByText := true, laidKinds := [.data, .data, .data, .data, .sentinel, .sentinel, .pinned], laidTests := true, laidLooks := .later }
def FnExactReadValueUptoCardSaid : Prop := Claim7.holds Tryz.pinned (.plain (OpenSpec.upto fnExactReadValueSpec)) fnExactReadValueUptoCard
end Rows
end Go.Proofs.YtijfgfdagfchiaaGreatDoor

/-
  DERIVED. GIVEN WITH THE SEED: THE CARDS: each row of YtkgneiideibfjaaGreatDoorRows.lean that lists a variable, with what it lists TIED to the program's text (the seventh form; the later family's looks); each row that meets fmt, with fmt's text TOLD by the authors' own Lean function (tested against real Go, not proved from fmt's source: count such statements apart). THE CARD IS WHAT COUNTS. Prove the row's statement (the work); the ties are given (YtkgneiideibfjaaGreatDoorTie.lean); close each card by the builder's one call (the guide's Derived/Test/ToyasCard.lean, 'card_holds'). Laid BY PROGRAM, IN A SANDBOX (cutbox-door.mjs). By AI agents, Wed Nov 11 2026. No macro, syntax, notation, axiom, sorry.
-/
import Derived.Test.YtkgneiideibfjaaGreatDoorRows
import GoSem.ClaimSeven
namespace Go.Proofs.YtkgneiideibfjaaGreatDoor
namespace Rows

/-- THE TIED CARD OF 'laws.FnExactAttenuate'. -/
def fnExactAttenuateCard : Claim7 := { stood := { row := fnExactAttenuateRow, standIns := [], harness := (true, "88e98f25fdff0ff4dbc24969a406d196566ff05f21d91ede1a6f9f7d59e14c56"), looks := false }, kinds := [], alts := [], laidByText := true, laidKinds := [.data, .data, .data, .data, .data], laidTests := true, laidLooks := .later }
def FnExactAttenuateCardSaid : Prop := Claim7.holds Tryz.pinned (.plain (OpenSpec.ofChange fnExactAttenuateSpec)) fnExactAttenuateCard

/-- THE SECOND FORM's CARD OF 'laws.FnExactAttenuate'. -/
def fnExactAttenuateUptoCard : Claim7 := { stood := { row := fnExactAttenuateUptoRow, standIns := [], harness := (true, "88e98f25fdff0ff4dbc24969a406d196566ff05f21d91ede1a6f9f7d59e14c56"), looks := false }, kinds := [], alts := [], laidByText := true, laidKinds := [.data, .data, .data, .data, .data], laidTests := true, laidLooks := .later }
def FnExactAttenuateUptoCardSaid : Prop := Claim7.holds Tryz.pinned (.plain (OpenSpec.upto fnExactAttenuateSpec)) fnExactAttenuateUptoCard
end Rows
end Go.Proofs.YtkgneiideibfjaaGreatDoor

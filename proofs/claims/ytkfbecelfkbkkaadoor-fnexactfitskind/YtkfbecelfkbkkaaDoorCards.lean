/-
  DERIVED. GIVEN WITH THE SEED: THE CARDS: each row of YtkfbecelfkbkkaaDoorRows.lean that lists a variable, with what it lists TIED to the program's text (the seventh form; the later family's looks); each row that meets fmt, with fmt's text TOLD by the authors' own Lean function (tested against real Go, not proved from fmt's source: count such statements apart). THE CARD IS WHAT COUNTS. Prove the row's statement (the work); the ties are given (YtkfbecelfkbkkaaDoorTie.lean); close each card by the builder's one call (the guide's Derived/Test/ToyasCard.lean, 'card_holds'). Laid BY PROGRAM, IN A SANDBOX (cutbox-door.mjs). By AI agents, Wed Nov 11 2026. No macro, syntax, notation, axiom, sorry.
-/
import Derived.Test.YtkfbecelfkbkkaaDoorRows
import GoSem.ClaimSeven
namespace Go.Proofs.YtkfbecelfkbkkaaDoor
namespace Rows

/-- THE TIED CARD OF 'laws.FnExactFitsKind'. -/
def fnExactFitsKindCard : Claim7 := { stood := { row := fnExactFitsKindRow, standIns := [], harness := (true, "930a417a8c659a0b786a7748d6db2ed801effad752d5bbac3d8634d1e43fc278"), looks := false }, kinds := [], alts := [], laidByText := true, laidKinds := [.data], laidTests := true, laidLooks := .later }
def FnExactFitsKindCardSaid : Prop := Claim7.holds Tryd.pinned (.plain (OpenSpec.ofChange fnExactFitsKindSpec)) fnExactFitsKindCard

/-- THE SECOND FORM's CARD OF 'laws.FnExactFitsKind'. -/
def fnExactFitsKindUptoCard : Claim7 := { stood := { row := fnExactFitsKindUptoRow, standIns := [], harness := (true, "930a417a8c659a0b786a7748d6db2ed801effad752d5bbac3d8634d1e43fc278"), looks := false }, kinds := [], alts := [], laidByText := true, laidKinds := [.data], laidTests := true, laidLooks := .later }
def FnExactFitsKindUptoCardSaid : Prop := Claim7.holds Tryd.pinned (.plain (OpenSpec.upto fnExactFitsKindSpec)) fnExactFitsKindUptoCard
end Rows
end Go.Proofs.YtkfbecelfkbkkaaDoor

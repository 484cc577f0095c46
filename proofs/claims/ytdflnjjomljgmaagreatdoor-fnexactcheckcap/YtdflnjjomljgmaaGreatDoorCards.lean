/-
  DERIVED. GIVEN WITH THE SEED: THE CARDS: each row of YtdflnjjomljgmaaGreatDoorRows.lean that lists a variable, with what it lists TIED to the program's text (the seventh form; the later family's looks); each row that meets fmt, with fmt's text TOLD by the authors' own Lean function (tested against real Go, not proved from fmt's source: count such statements apart). THE CARD IS WHAT COUNTS. Prove the row's statement (the work); the ties are given (YtdflnjjomljgmaaGreatDoorTie.lean); close each card by the builder's one call (the guide's Derived/Test/ToyasCard.lean, 'card_holds'). Laid BY PROGRAM, IN A SANDBOX (cutbox-door.mjs). By AI agents, Wed Nov 11 2026. No macro, syntax, notation, axiom, sorry.
-/
import Derived.Test.YtdflnjjomljgmaaGreatDoorRows
import GoSem.ClaimSeven
namespace Go.Proofs.YtdflnjjomljgmaaGreatDoor
namespace Rows

/-- THE TIED CARD OF 'laws.FnExactCheckCap'. -/
def fnExactCheckCapCard : Claim7 := { stood := { row := fnExactCheckCapRow, standIns := [], harness := (true, "dc1b8ed59baa7876c4ce44794c10f11bc572db6a439cce6f7106a2b12fff639c"), looks := false }, kinds := [], alts := [], laidByText := true, laidKinds := [.data, .data, .data, .data, .data], laidTests := true, laidLooks := .later }
def FnExactCheckCapCardSaid : Prop := Claim7.holds Tryz.pinned (.plain (OpenSpec.ofChange fnExactCheckCapSpec)) fnExactCheckCapCard

/-- THE SECOND FORM's CARD OF 'laws.FnExactCheckCap'. -/
def fnExactCheckCapUptoCard : Claim7 := { stood := { row := fnExactCheckCapUptoRow, standIns := [], harness := (true, "dc1b8ed59baa7876c4ce44794c10f11bc572db6a439cce6f7106a2b12fff639c"), looks := false }, kinds := [], alts := [], laidByText := true, laidKinds := [.data, .data, .data, .data, .data], laidTests := true, laidLooks := .later }
def FnExactCheckCapUptoCardSaid : Prop := Claim7.holds Tryz.pinned (.plain (OpenSpec.upto fnExactCheckCapSpec)) fnExactCheckCapUptoCard
end Rows
end Go.Proofs.YtdflnjjomljgmaaGreatDoor

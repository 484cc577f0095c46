/-
  DERIVED. GIVEN WITH THE SEED: THE CARDS: each row of YtfnjgakjainljaaDoorRows.lean that lists a variable, with what it lists TIED to the program's text (the seventh form; the later family's looks); each row that meets fmt, with fmt's text TOLD by the authors' own Lean function (tested against real Go, not proved from fmt's source: count such statements apart). THE CARD IS WHAT COUNTS. Prove the row's statement (the work); the ties are given (YtfnjgakjainljaaDoorTie.lean); close each card by the builder's one call (the guide's Derived/Test/ToyasCard.lean, 'card_holds'). Laid BY PROGRAM, IN A SANDBOX (cutbox-door.mjs). By AI agents, Wed Nov 11 2026. No macro, syntax, notation, axiom, sorry.
-/
import Derived.Test.YtfnjgakjainljaaDoorRows
import GoSem.ClaimSeven
namespace Go.Proofs.YtfnjgakjainljaaDoor
namespace Rows

/-- THE TIED CARD OF 'laws.FnExactMakeCap'. -/
def fnExactMakeCapCard : Claim7 := { stood := { row := fnExactMakeCapRow, standIns := [], harness := (true, "3074956563d812fa1523974774f962e1e5721003404b07cffdbe9e790f8dec4c"), looks := false }, kinds := [], alts := [], laidByText := true, laidKinds := [.data], laidTests := true, laidLooks := .later }
def FnExactMakeCapCardSaid : Prop := Claim7.holds Tryd.pinned (.plain (OpenSpec.ofChange fnExactMakeCapSpec)) fnExactMakeCapCard

/-- THE SECOND FORM's CARD OF 'laws.FnExactMakeCap'. -/
def fnExactMakeCapUptoCard : Claim7 := { stood := { row := fnExactMakeCapUptoRow, standIns := [], harness := (true, "3074956563d812fa1523974774f962e1e5721003404b07cffdbe9e790f8dec4c"), looks := false }, kinds := [], alts := [], laidByText := true, laidKinds := [.data], laidTests := true, laidLooks := .later }
def FnExactMakeCapUptoCardSaid : Prop := Claim7.holds Tryd.pinned (.plain (OpenSpec.upto fnExactMakeCapSpec)) fnExactMakeCapUptoCard
end Rows
end Go.Proofs.YtfnjgakjainljaaDoor

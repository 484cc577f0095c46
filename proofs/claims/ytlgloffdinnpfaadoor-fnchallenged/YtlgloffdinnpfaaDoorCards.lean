/-
  DERIVED. GIVEN WITH THE SEED: THE CARDS: each row of YtlgloffdinnpfaaDoorRows.lean that lists a variable, with what it lists TIED to the program's text (the seventh form; the later family's looks); each row that meets fmt, with fmt's text TOLD by the authors' own Lean function (tested against real Go, not proved from fmt's source: count such statements apart). THE CARD IS WHAT COUNTS. Prove the row's statement (the work); the ties are given (YtlgloffdinnpfaaDoorTie.lean); close each card by the builder's one call (the guide's Derived/Test/ToyasCard.lean, 'card_holds'). Laid BY PROGRAM, IN A SANDBOX (cutbox-door.mjs). By AI agents, Wed Nov 11 2026. No macro, syntax, notation, axiom, sorry.
-/
import Derived.Test.YtlgloffdinnpfaaDoorRows
import GoSem.ClaimSeven
namespace Go.Proofs.YtlgloffdinnpfaaDoor
namespace Rows

/-- THE TIED CARD OF 'laws.FnChallenged'. -/
def fnChallengedCard : Claim7 := { stood := { row := fnChallengedRow, standIns := [], harness := (true, "0402624382c2d6b0c327fd5f41b8d4da3fb1f67eadc43d1ea55d4efd699e9bd7"), looks := false }, kinds := [], alts := [], laidByText := true, laidKinds := [.data], laidTests := true, laidLooks := .later }
def FnChallengedCardSaid : Prop := Claim7.holds Tryd.pinned (.plain (OpenSpec.ofChange fnChallengedSpec)) fnChallengedCard

/-- THE SECOND FORM's CARD OF 'laws.FnChallenged'. -/
def fnChallengedUptoCard : Claim7 := { stood := { row := fnChallengedUptoRow, standIns := [], harness := (true, "0402624382c2d6b0c327fd5f41b8d4da3fb1f67eadc43d1ea55d4efd699e9bd7"), looks := false }, kinds := [], alts := [], laidByText := true, laidKinds := [.data], laidTests := true, laidLooks := .later }
def FnChallengedUptoCardSaid : Prop := Claim7.holds Tryd.pinned (.plain (OpenSpec.upto fnChallengedSpec)) fnChallengedUptoCard
end Rows
end Go.Proofs.YtlgloffdinnpfaaDoor

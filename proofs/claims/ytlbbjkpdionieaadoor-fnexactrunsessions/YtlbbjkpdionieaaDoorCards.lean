/-
  DERIVED. GIVEN WITH THE SEED: THE CARDS: each row of YtlbbjkpdionieaaDoorRows.lean that lists a variable, with what it lists TIED to the program's text (the seventh form; the later family's looks); each row that meets fmt, with fmt's text TOLD by the authors' own Lean function (tested against real Go, not proved from fmt's source: count such statements apart). THE CARD IS WHAT COUNTS. Prove the row's statement (the work); the ties are given (YtlbbjkpdionieaaDoorTie.lean); close each card by the builder's one call (the guide's Derived/Test/ToyasCard.lean, 'card_holds'). Laid BY PROGRAM, IN A SANDBOX (cutbox-door.mjs). By AI agents, Wed Nov 11 2026. No macro, syntax, notation, axiom, sorry.
-/
import Derived.Test.YtlbbjkpdionieaaDoorRows
import GoSem.ClaimSeven
namespace Go.Proofs.YtlbbjkpdionieaaDoor
namespace Rows

/-- THE TIED CARD OF 'laws.FnExactRunSessions'. -/
def fnExactRunSessionsCard : Claim7 := { stood := { row := fnExactRunSessionsRow, standIns := [], harness := (true, "d85f90724dfa714f299835bed05e11f3b5977a5354cafd25a4e237f594e319d6"), looks := false }, kinds := [], alts := [], laidByText := true, laidKinds := [.data, .data, .data, .data], laidTests := true, laidLooks := .later }
def FnExactRunSessionsCardSaid : Prop := Claim7.holds Tryd.pinned (.plain (OpenSpec.ofChange fnExactRunSessionsSpec)) fnExactRunSessionsCard

/-- THE SECOND FORM's CARD OF 'laws.FnExactRunSessions'. -/
def fnExactRunSessionsUptoCard : Claim7 := { stood := { row := fnExactRunSessionsUptoRow, standIns := [], harness := (true, "d85f90724dfa714f299835bed05e11f3b5977a5354cafd25a4e237f594e319d6"), looks := false }, kinds := [], alts := [], laidByText := true, laidKinds := [.data, .data, .data, .data], laidTests := true, laidLooks := .later }
def FnExactRunSessionsUptoCardSaid : Prop := Claim7.holds Tryd.pinned (.plain (OpenSpec.upto fnExactRunSessionsSpec)) fnExactRunSessionsUptoCard
end Rows
end Go.Proofs.YtlbbjkpdionieaaDoor

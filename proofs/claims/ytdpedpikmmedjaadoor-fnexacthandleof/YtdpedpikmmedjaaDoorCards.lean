/-
  DERIVED. GIVEN WITH THE SEED: THE CARDS: each row of YtdpedpikmmedjaaDoorRows.lean that lists a variable, with what it lists TIED to the program's text (the seventh form; the later family's looks); each row that meets fmt, with fmt's text TOLD by the authors' own Lean function (tested against real Go, not proved from fmt's source: count such statements apart). THE CARD IS WHAT COUNTS. Prove the row's statement (the work); the ties are given (YtdpedpikmmedjaaDoorTie.lean); close each card by the builder's one call (the guide's Derived/Test/ToyasCard.lean, 'card_holds'). Laid BY PROGRAM, IN A SANDBOX (cutbox-door.mjs). By AI agents, Wed Nov 11 2026. No macro, syntax, notation, axiom, sorry.
-/
import Derived.Test.YtdpedpikmmedjaaDoorRows
import GoSem.ClaimSeven
namespace Go.Proofs.YtdpedpikmmedjaaDoor
namespace Rows

/-- THE TIED CARD OF 'laws.FnExactChallengeOf'. -/
def fnExactChallengeOfCard : Claim7 := { stood := { row := fnExactChallengeOfRow, standIns := [], harness := (true, "f5948e12602655527fb5401c46014be29079666a8aedd1032be1be89d18dbc49"), looks := false }, kinds := [], alts := [], laidByText := true, laidKinds := [.data], laidTests := true, laidLooks := .later }
def FnExactChallengeOfCardSaid : Prop := Claim7.holds Tryd.pinned (.plain (OpenSpec.ofChange fnExactChallengeOfSpec)) fnExactChallengeOfCard

/-- THE TIED CARD OF 'laws.FnExactHandleOf'. -/
def fnExactHandleOfCard : Claim7 := { stood := { row := fnExactHandleOfRow, standIns := [], harness := (true, "f5948e12602655527fb5401c46014be29079666a8aedd1032be1be89d18dbc49"), looks := false }, kinds := [], alts := [], laidByText := true, laidKinds := [.data, .data, .data, .data], laidTests := true, laidLooks := .later }
def FnExactHandleOfCardSaid : Prop := Claim7.holds Tryd.pinned (.plain (OpenSpec.ofChange fnExactHandleOfSpec)) fnExactHandleOfCard

/-- THE SECOND FORM's CARD OF 'laws.FnExactChallengeOf'. -/
def fnExactChallengeOfUptoCard : Claim7 := { stood := { row := fnExactChallengeOfUptoRow, standIns := [], harness := (true, "f5948e12602655527fb5401c46014be29079666a8aedd1032be1be89d18dbc49"), looks := false }, kinds := [], alts := [], laidByText := true, laidKinds := [.data], laidTests := true, laidLooks := .later }
def FnExactChallengeOfUptoCardSaid : Prop := Claim7.holds Tryd.pinned (.plain (OpenSpec.upto fnExactChallengeOfSpec)) fnExactChallengeOfUptoCard

/-- THE SECOND FORM's CARD OF 'laws.FnExactHandleOf'. -/
def fnExactHandleOfUptoCard : Claim7 := { stood := { row := fnExactHandleOfUptoRow, standIns := [], harness := (true, "f5948e12602655527fb5401c46014be29079666a8aedd1032be1be89d18dbc49"), looks := false }, kinds := [], alts := [], laidByText := true, laidKinds := [.data, .data, .data, .data], laidTests := true, laidLooks := .later }
def FnExactHandleOfUptoCardSaid : Prop := Claim7.holds Tryd.pinned (.plain (OpenSpec.upto fnExactHandleOfSpec)) fnExactHandleOfUptoCard
end Rows
end Go.Proofs.YtdpedpikmmedjaaDoor

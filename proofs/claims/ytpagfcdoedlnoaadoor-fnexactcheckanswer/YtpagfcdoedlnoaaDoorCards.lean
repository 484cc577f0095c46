/-
  DERIVED. GIVEN WITH THE SEED: THE CARDS: each row of YtpagfcdoedlnoaaDoorRows.lean that lists a variable, with what it lists TIED to the program's text (the seventh form; the later family's looks); each row that meets fmt, with fmt's text TOLD by the authors' own Lean function (tested against real Go, not proved from fmt's source: count such statements apart). THE CARD IS WHAT COUNTS. Prove the row's statement (the work); the ties are given (YtpagfcdoedlnoaaDoorTie.lean); close each card by the builder's one call (the guide's Derived/Test/ToyasCard.lean, 'card_holds'). Laid BY PROGRAM, IN A SANDBOX (cutbox-door.mjs). By AI agents, Wed Nov 11 2026. No macro, syntax, notation, axiom, sorry.
-/
import Derived.Test.YtpagfcdoedlnoaaDoorRows
import GoSem.ClaimSeven
namespace Go.Proofs.YtpagfcdoedlnoaaDoor
namespace Rows

/-- THE TIED CARD OF 'laws.FnExactAnswerChallenge'. -/
def fnExactAnswerChallengeCard : Claim7 := { stood := { row := fnExactAnswerChallengeRow, standIns := [], harness := (true, "0df8342d1680ce70a58305d888a19523ead31d3c67be45b149069910b929f191"), looks := false }, kinds := [], alts := [], laidByText := true, laidKinds := [.data], laidTests := true, laidLooks := .later }
def FnExactAnswerChallengeCardSaid : Prop := Claim7.holds Tryd.pinned (.plain (OpenSpec.ofChange fnExactAnswerChallengeSpec)) fnExactAnswerChallengeCard

/-- THE TIED CARD OF 'laws.FnExactCheckAnswer'. -/
def fnExactCheckAnswerCard : Claim7 := { stood := { row := fnExactCheckAnswerRow, standIns := [], harness := (true, "0df8342d1680ce70a58305d888a19523ead31d3c67be45b149069910b929f191"), looks := false }, kinds := [], alts := [], laidByText := true, laidKinds := [.data], laidTests := true, laidLooks := .later }
def FnExactCheckAnswerCardSaid : Prop := Claim7.holds Tryd.pinned (.plain (OpenSpec.ofChange fnExactCheckAnswerSpec)) fnExactCheckAnswerCard

/-- THE SECOND FORM's CARD OF 'laws.FnExactAnswerChallenge'. -/
def fnExactAnswerChallengeUptoCard : Claim7 := { stood := { row := fnExactAnswerChallengeUptoRow, standIns := [], harness := (true, "0df8342d1680ce70a58305d888a19523ead31d3c67be45b149069910b929f191"), looks := false }, kinds := [], alts := [], laidByText := true, laidKinds := [.data], laidTests := true, laidLooks := .later }
def FnExactAnswerChallengeUptoCardSaid : Prop := Claim7.holds Tryd.pinned (.plain (OpenSpec.upto fnExactAnswerChallengeSpec)) fnExactAnswerChallengeUptoCard

/-- THE SECOND FORM's CARD OF 'laws.FnExactCheckAnswer'. -/
def fnExactCheckAnswerUptoCard : Claim7 := { stood := { row := fnExactCheckAnswerUptoRow, standIns := [], harness := (true, "0df8342d1680ce70a58305d888a19523ead31d3c67be45b149069910b929f191"), looks := false }, kinds := [], alts := [], laidByText := true, laidKinds := [.data], laidTests := true, laidLooks := .later }
def FnExactCheckAnswerUptoCardSaid : Prop := Claim7.holds Tryd.pinned (.plain (OpenSpec.upto fnExactCheckAnswerSpec)) fnExactCheckAnswerUptoCard
end Rows
end Go.Proofs.YtpagfcdoedlnoaaDoor

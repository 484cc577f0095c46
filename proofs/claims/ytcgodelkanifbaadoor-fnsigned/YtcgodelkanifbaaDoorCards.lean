/-
  DERIVED. GIVEN WITH THE SEED: THE CARDS: each row of YtcgodelkanifbaaDoorRows.lean that lists a variable, with what it lists TIED to the program's text (the seventh form; the later family's looks); each row that meets fmt, with fmt's text TOLD by the authors' own Lean function (tested against real Go, not proved from fmt's source: count such statements apart). THE CARD IS WHAT COUNTS. Prove the row's statement (the work); the ties are given (YtcgodelkanifbaaDoorTie.lean); close each card by the builder's one call (the guide's Derived/Test/ToyasCard.lean, 'card_holds'). Laid BY PROGRAM, IN A SANDBOX (cutbox-door.mjs). By AI agents, Wed Nov 11 2026. No macro, syntax, notation, axiom, sorry.
-/
import Derived.Test.YtcgodelkanifbaaDoorRows
import GoSem.ClaimSeven
namespace Go.Proofs.YtcgodelkanifbaaDoor
namespace Rows

/-- THE TIED CARD OF 'laws.FnSigned'. -/
def fnSignedCard : Claim7 := { stood := { row := fnSignedRow, standIns := [], harness := (true, "4d4ec08cc399d53a7ca90ccacaa052f760e0b328250ac90dfbc256b2473df321"), looks := false }, kinds := [], alts := [], laidByText := true, laidKinds := [.data], laidTests := true, laidLooks := .later }
def FnSignedCardSaid : Prop := Claim7.holds Tryd.pinned (.plain (OpenSpec.ofChange fnSignedSpec)) fnSignedCard

/-- THE TIED CARD OF 'laws.FnShared'. -/
def fnSharedCard : Claim7 := { stood := { row := fnSharedRow, standIns := [], harness := (true, "4d4ec08cc399d53a7ca90ccacaa052f760e0b328250ac90dfbc256b2473df321"), looks := false }, kinds := [], alts := [], laidByText := true, laidKinds := [.data], laidTests := true, laidLooks := .later }
def FnSharedCardSaid : Prop := Claim7.holds Tryd.pinned (.plain (OpenSpec.ofChange fnSharedSpec)) fnSharedCard

/-- THE TIED CARD OF 'laws.FnExactDigest'. -/
def fnExactDigestCard : Claim7 := { stood := { row := fnExactDigestRow, standIns := [], harness := (true, "4d4ec08cc399d53a7ca90ccacaa052f760e0b328250ac90dfbc256b2473df321"), looks := false }, kinds := [], alts := [], laidByText := true, laidKinds := [.data], laidTests := true, laidLooks := .later }
def FnExactDigestCardSaid : Prop := Claim7.holds Tryd.pinned (.plain (OpenSpec.ofChange fnExactDigestSpec)) fnExactDigestCard

/-- THE TIED CARD OF 'laws.FnExactMac'. -/
def fnExactMacCard : Claim7 := { stood := { row := fnExactMacRow, standIns := [], harness := (true, "4d4ec08cc399d53a7ca90ccacaa052f760e0b328250ac90dfbc256b2473df321"), looks := false }, kinds := [], alts := [], laidByText := true, laidKinds := [.data], laidTests := true, laidLooks := .later }
def FnExactMacCardSaid : Prop := Claim7.holds Tryd.pinned (.plain (OpenSpec.ofChange fnExactMacSpec)) fnExactMacCard

/-- THE TIED CARD OF 'laws.FnExactSign'. -/
def fnExactSignCard : Claim7 := { stood := { row := fnExactSignRow, standIns := [], harness := (true, "4d4ec08cc399d53a7ca90ccacaa052f760e0b328250ac90dfbc256b2473df321"), looks := false }, kinds := [], alts := [], laidByText := true, laidKinds := [.data], laidTests := true, laidLooks := .later }
def FnExactSignCardSaid : Prop := Claim7.holds Tryd.pinned (.plain (OpenSpec.ofChange fnExactSignSpec)) fnExactSignCard

/-- THE TIED CARD OF 'laws.FnExactVerify'. -/
def fnExactVerifyCard : Claim7 := { stood := { row := fnExactVerifyRow, standIns := [], harness := (true, "4d4ec08cc399d53a7ca90ccacaa052f760e0b328250ac90dfbc256b2473df321"), looks := false }, kinds := [], alts := [], laidByText := true, laidKinds := [.data], laidTests := true, laidLooks := .later }
def FnExactVerifyCardSaid : Prop := Claim7.holds Tryd.pinned (.plain (OpenSpec.ofChange fnExactVerifySpec)) fnExactVerifyCard

/-- THE TIED CARD OF 'laws.FnExactSplit'. -/
def fnExactSplitCard : Claim7 := { stood := { row := fnExactSplitRow, standIns := [], harness := (true, "4d4ec08cc399d53a7ca90ccacaa052f760e0b328250ac90dfbc256b2473df321"), looks := false }, kinds := [], alts := [], laidByText := true, laidKinds := [.data], laidTests := true, laidLooks := .later }
def FnExactSplitCardSaid : Prop := Claim7.holds Tryd.pinned (.plain (OpenSpec.ofChange fnExactSplitSpec)) fnExactSplitCard

/-- THE SECOND FORM's CARD OF 'laws.FnSigned'. -/
def fnSignedUptoCard : Claim7 := { stood := { row := fnSignedUptoRow, standIns := [], harness := (true, "4d4ec08cc399d53a7ca90ccacaa052f760e0b328250ac90dfbc256b2473df321"), looks := false }, kinds := [], alts := [], laidByText := true, laidKinds := [.data], laidTests := true, laidLooks := .later }
def FnSignedUptoCardSaid : Prop := Claim7.holds Tryd.pinned (.plain (OpenSpec.upto fnSignedSpec)) fnSignedUptoCard

/-- THE SECOND FORM's CARD OF 'laws.FnShared'. -/
def fnSharedUptoCard : Claim7 := { stood := { row := fnSharedUptoRow, standIns := [], harness := (true, "4d4ec08cc399d53a7ca90ccacaa052f760e0b328250ac90dfbc256b2473df321"), looks := false }, kinds := [], alts := [], laidByText := true, laidKinds := [.data], laidTests := true, laidLooks := .later }
def FnSharedUptoCardSaid : Prop := Claim7.holds Tryd.pinned (.plain (OpenSpec.upto fnSharedSpec)) fnSharedUptoCard

/-- THE SECOND FORM's CARD OF 'laws.FnExactDigest'. -/
def fnExactDigestUptoCard : Claim7 := { stood := { row := fnExactDigestUptoRow, standIns := [], harness := (true, "4d4ec08cc399d53a7ca90ccacaa052f760e0b328250ac90dfbc256b2473df321"), looks := false }, kinds := [], alts := [], laidByText := true, laidKinds := [.data], laidTests := true, laidLooks := .later }
def FnExactDigestUptoCardSaid : Prop := Claim7.holds Tryd.pinned (.plain (OpenSpec.upto fnExactDigestSpec)) fnExactDigestUptoCard

/-- THE SECOND FORM's CARD OF 'laws.FnExactMac'. -/
def fnExactMacUptoCard : Claim7 := { stood := { row := fnExactMacUptoRow, standIns := [], harness := (true, "4d4ec08cc399d53a7ca90ccacaa052f760e0b328250ac90dfbc256b2473df321"), looks := false }, kinds := [], alts := [], laidByText := true, laidKinds := [.data], laidTests := true, laidLooks := .later }
def FnExactMacUptoCardSaid : Prop := Claim7.holds Tryd.pinned (.plain (OpenSpec.upto fnExactMacSpec)) fnExactMacUptoCard

/-- THE SECOND FORM's CARD OF 'laws.FnExactSign'. -/
def fnExactSignUptoCard : Claim7 := { stood := { row := fnExactSignUptoRow, standIns := [], harness := (true, "4d4ec08cc399d53a7ca90ccacaa052f760e0b328250ac90dfbc256b2473df321"), looks := false }, kinds := [], alts := [], laidByText := true, laidKinds := [.data], laidTests := true, laidLooks := .later }
def FnExactSignUptoCardSaid : Prop := Claim7.holds Tryd.pinned (.plain (OpenSpec.upto fnExactSignSpec)) fnExactSignUptoCard

/-- THE SECOND FORM's CARD OF 'laws.FnExactVerify'. -/
def fnExactVerifyUptoCard : Claim7 := { stood := { row := fnExactVerifyUptoRow, standIns := [], harness := (true, "4d4ec08cc399d53a7ca90ccacaa052f760e0b328250ac90dfbc256b2473df321"), looks := false }, kinds := [], alts := [], laidByText := true, laidKinds := [.data], laidTests := true, laidLooks := .later }
def FnExactVerifyUptoCardSaid : Prop := Claim7.holds Tryd.pinned (.plain (OpenSpec.upto fnExactVerifySpec)) fnExactVerifyUptoCard

/-- THE SECOND FORM's CARD OF 'laws.FnExactSplit'. -/
def fnExactSplitUptoCard : Claim7 := { stood := { row := fnExactSplitUptoRow, standIns := [], harness := (true, "4d4ec08cc399d53a7ca90ccacaa052f760e0b328250ac90dfbc256b2473df321"), looks := false }, kinds := [], alts := [], laidByText := true, laidKinds := [.data], laidTests := true, laidLooks := .later }
def FnExactSplitUptoCardSaid : Prop := Claim7.holds Tryd.pinned (.plain (OpenSpec.upto fnExactSplitSpec)) fnExactSplitUptoCard
end Rows
end Go.Proofs.YtcgodelkanifbaaDoor

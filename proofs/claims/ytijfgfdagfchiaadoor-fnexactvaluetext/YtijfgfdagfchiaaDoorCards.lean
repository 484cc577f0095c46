/-
  DERIVED. GIVEN WITH THE SEED: THE CARDS: each row of YtijfgfdagfchiaaDoorRows.lean that lists a variable, with what it lists TIED to the program's text (the seventh form; the later family's looks); each row that meets fmt, with fmt's text TOLD by the authors' own Lean function (tested against real Go, not proved from fmt's source: count such statements apart). THE CARD IS WHAT COUNTS. Prove the row's statement (the work); the ties are given (YtijfgfdagfchiaaDoorTie.lean); close each card by the builder's one call (the guide's Derived/Test/ToyasCard.lean, 'card_holds'). Laid BY PROGRAM, IN A SANDBOX (cutbox-door.mjs). By AI agents, Wed Nov 11 2026. No macro, syntax, notation, axiom, sorry.
-/
import Derived.Test.YtijfgfdagfchiaaDoorRows
import GoSem.ClaimSeven
namespace Go.Proofs.YtijfgfdagfchiaaDoor
namespace Rows

/-- THE TIED CARD OF 'laws.FnExactAtomText'. -/
def fnExactAtomTextCard : Claim7 := { stood := { row := fnExactAtomTextRow, standIns := [], harness := (true, "a48e19784cc3adb8627caad382c12fdbf09043b4ea73b561e6c1cace18afbcce"), looks := false }, kinds := [], alts := [], laidByText := true, laidKinds := [.data, .data, .data], laidTests := true, laidLooks := .later }
def FnExactAtomTextCardSaid : Prop := Claim7.holds Tryd.pinned (.plain (OpenSpec.ofChange fnExactAtomTextSpec)) fnExactAtomTextCard

/-- THE TIED CARD OF 'laws.FnExactValueText'. -/
def fnExactValueTextCard : Claim7 := { stood := { row := fnExactValueTextRow, standIns := [], harness := (true, "a48e19784cc3adb8627caad382c12fdbf09043b4ea73b561e6c1cace18afbcce"), looks := false }, kinds := [], alts := [], laidByText := true, laidKinds := [.data, .data, .data], laidTests := true, laidLooks := .later }
def FnExactValueTextCardSaid : Prop := Claim7.holds Tryd.pinned (.plain (OpenSpec.ofChange fnExactValueTextSpec)) fnExactValueTextCard

/-- THE SECOND FORM's CARD OF 'laws.FnExactAtomText'. -/
def fnExactAtomTextUptoCard : Claim7 := { stood := { row := fnExactAtomTextUptoRow, standIns := [], harness := (true, "a48e19784cc3adb8627caad382c12fdbf09043b4ea73b561e6c1cace18afbcce"), looks := false }, kinds := [], alts := [], laidByText := true, laidKinds := [.data, .data, .data], laidTests := true, laidLooks := .later }
def FnExactAtomTextUptoCardSaid : Prop := Claim7.holds Tryd.pinned (.plain (OpenSpec.upto fnExactAtomTextSpec)) fnExactAtomTextUptoCard

/-- THE SECOND FORM's CARD OF 'laws.FnExactValueText'. -/
def fnExactValueTextUptoCard : Claim7 := { stood := { row := fnExactValueTextUptoRow, standIns := [], harness := (true, "a48e19784cc3adb8627caad382c12fdbf09043b4ea73b561e6c1cace18afbcce"), looks := false }, kinds := [], alts := [], laidByText := true, laidKinds := [.data, .data, .data], laidTests := true, laidLooks := .later }
def FnExactValueTextUptoCardSaid : Prop := Claim7.holds Tryd.pinned (.plain (OpenSpec.upto fnExactValueTextSpec)) fnExactValueTextUptoCard
end Rows
end Go.Proofs.YtijfgfdagfchiaaDoor

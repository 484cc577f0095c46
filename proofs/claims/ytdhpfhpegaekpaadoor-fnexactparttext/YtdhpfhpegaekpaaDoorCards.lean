/-
  DERIVED. GIVEN WITH THE SEED: THE CARDS: each row of YtdhpfhpegaekpaaDoorRows.lean that lists a variable, with what it lists TIED to the program's text (the seventh form; the later family's looks); each row that meets fmt, with fmt's text TOLD by the authors' own Lean function (tested against real Go, not proved from fmt's source: count such statements apart). THE CARD IS WHAT COUNTS. Prove the row's statement (the work); the ties are given (YtdhpfhpegaekpaaDoorTie.lean); close each card by the builder's one call (the guide's Derived/Test/ToyasCard.lean, 'card_holds'). Laid BY PROGRAM, IN A SANDBOX (cutbox-door.mjs). By AI agents, Wed Nov 11 2026. No macro, syntax, notation, axiom, sorry.
-/
import Derived.Test.YtdhpfhpegaekpaaDoorRows
import GoSem.ClaimSeven
namespace Go.Proofs.YtdhpfhpegaekpaaDoor
namespace Rows

/-- THE TIED CARD OF 'laws.FnExactDocText'. -/
def fnExactDocTextCard : Claim7 := { stood := { row := fnExactDocTextRow, standIns := [], harness := (true, "ffed82e6712ba60c6304d66c4ad867f00c9e6aca114d1a8ec90f46cddc912d09"), looks := false }, kinds := [], alts := [], laidByText := true, laidKinds := [.data, .data, .pinned], laidTests := true, laidLooks := .later }
def FnExactDocTextCardSaid : Prop := Claim7.holds Tryd.pinned (.plain (OpenSpec.ofChange fnExactDocTextSpec)) fnExactDocTextCard

/-- THE TIED CARD OF 'laws.FnExactPartText'. -/
def fnExactPartTextCard : Claim7 := { stood := { row := fnExactPartTextRow, standIns := [], harness := (true, "ffed82e6712ba60c6304d66c4ad867f00c9e6aca114d1a8ec90f46cddc912d09"), looks := false }, kinds := [], alts := [], laidByText := true, laidKinds := [.data, .data, .pinned], laidTests := true, laidLooks := .later }
def FnExactPartTextCardSaid : Prop := Claim7.holds Tryd.pinned (.plain (OpenSpec.ofChange fnExactPartTextSpec)) fnExactPartTextCard

/-- THE SECOND FORM's CARD OF 'laws.FnExactDocText'. -/
def fnExactDocTextUptoCard : Claim7 := { stood := { row := fnExactDocTextUptoRow, standIns := [], harness := (true, "ffed82e6712ba60c6304d66c4ad867f00c9e6aca114d1a8ec90f46cddc912d09"), looks := false }, kinds := [], alts := [], laidByText := true, laidKinds := [.data, .data, .pinned], laidTests := true, laidLooks := .later }
def FnExactDocTextUptoCardSaid : Prop := Claim7.holds Tryd.pinned (.plain (OpenSpec.upto fnExactDocTextSpec)) fnExactDocTextUptoCard

/-- THE SECOND FORM's CARD OF 'laws.FnExactPartText'. -/
def fnExactPartTextUptoCard : Claim7 := { stood := { row := fnExactPartTextUptoRow, standIns := [], harness := (true, "ffed82e6712ba60c6304d66c4ad867f00c9e6aca114d1a8ec90f46cddc912d09"), looks := false }, kinds := [], alts := [], laidByText := true, laidKinds := [.data, .data, .pinned], laidTests := true, laidLooks := .later }
def FnExactPartTextUptoCardSaid : Prop := Claim7.holds Tryd.pinned (.plain (OpenSpec.upto fnExactPartTextSpec)) fnExactPartTextUptoCard
end Rows
end Go.Proofs.YtdhpfhpegaekpaaDoor

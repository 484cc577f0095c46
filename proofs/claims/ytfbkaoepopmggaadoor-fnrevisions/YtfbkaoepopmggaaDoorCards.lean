/-
  DERIVED. GIVEN WITH THE SEED: THE CARDS: each row of YtfbkaoepopmggaaDoorRows.lean that lists a variable, with what it lists TIED to the program's text (the seventh form; the later family's looks); each row that meets fmt, with fmt's text TOLD by the authors' own Lean function (tested against real Go, not proved from fmt's source: count such statements apart). THE CARD IS WHAT COUNTS. Prove the row's statement (the work); the ties are given (YtfbkaoepopmggaaDoorTie.lean); close each card by the builder's one call (the guide's Derived/Test/ToyasCard.lean, 'card_holds'). Laid BY PROGRAM, IN A SANDBOX (cutbox-door.mjs). By AI agents, Wed Nov 11 2026. No macro, syntax, notation, axiom, sorry.
-/
import Derived.Test.YtfbkaoepopmggaaDoorRows
import GoSem.ClaimSeven
namespace Go.Proofs.YtfbkaoepopmggaaDoor
namespace Rows

/-- THE TIED CARD OF 'laws.FnRevisions'. -/
def fnRevisionsCard : Claim7 := { stood := { row := fnRevisionsRow, standIns := [], harness := (true, "3949481afb3f70e378525bd3f00d5099b9b0d69ba8660796893b2915b9441ce7"), looks := true }, kinds := [], alts := [], laidByText := true, laidKinds := [.data, .data, .data, .sentinel, .sentinel, .data], laidTests := true, laidLooks := .later }
def FnRevisionsCardSaid : Prop := Claim7.holds Tryd.pinned (.plain (OpenSpec.ofChange fnRevisionsSpec)) fnRevisionsCard

/-- THE TIED CARD OF 'laws.FnExactTokenOf'. -/
def fnExactTokenOfCard : Claim7 := { stood := { row := fnExactTokenOfRow, standIns := [], harness := (true, "3949481afb3f70e378525bd3f00d5099b9b0d69ba8660796893b2915b9441ce7"), looks := true }, kinds := [], alts := [], laidByText := true, laidKinds := [.data, .data, .data, .data], laidTests := true, laidLooks := .later }
def FnExactTokenOfCardSaid : Prop := Claim7.holds Tryd.pinned (.plain (OpenSpec.ofChange fnExactTokenOfSpec)) fnExactTokenOfCard

/-- THE TIED CARD OF 'laws.FnExactReadToken'. -/
def fnExactReadTokenCard : Claim7 := { stood := { row := fnExactReadTokenRow, standIns := [], harness := (true, "3949481afb3f70e378525bd3f00d5099b9b0d69ba8660796893b2915b9441ce7"), looks := true }, kinds := [], alts := [], laidByText := true, laidKinds := [.data, .data, .data, .sentinel, .sentinel, .data], laidTests := true, laidLooks := .later }
def FnExactReadTokenCardSaid : Prop := Claim7.holds Tryd.pinned (.plain (OpenSpec.ofChange fnExactReadTokenSpec)) fnExactReadTokenCard

/-- THE SECOND FORM's CARD OF 'laws.FnRevisions'. -/
def fnRevisionsUptoCard : Claim7 := { stood := { row := fnRevisionsUptoRow, standIns := [], harness := (true, "3949481afb3f70e378525bd3f00d5099b9b0d69ba8660796893b2915b9441ce7"), looks := true }, kinds := [], alts := [], laidByText := true, laidKinds := [.data, .data, .data, .sentinel, .sentinel, .data], laidTests := true, laidLooks := .later }
def FnRevisionsUptoCardSaid : Prop := Claim7.holds Tryd.pinned (.plain (OpenSpec.upto fnRevisionsSpec)) fnRevisionsUptoCard

/-- THE SECOND FORM's CARD OF 'laws.FnExactTokenOf'. -/
def fnExactTokenOfUptoCard : Claim7 := { stood := { row := fnExactTokenOfUptoRow, standIns := [], harness := (true, "3949481afb3f70e378525bd3f00d5099b9b0d69ba8660796893b2915b9441ce7"), looks := true }, kinds := [], alts := [], laidByText := true, laidKinds := [.data, .data, .data, .data], laidTests := true, laidLooks := .later }
def FnExactTokenOfUptoCardSaid : Prop := Claim7.holds Tryd.pinned (.plain (OpenSpec.upto fnExactTokenOfSpec)) fnExactTokenOfUptoCard

/-- THE SECOND FORM's CARD OF 'laws.FnExactReadToken'. -/
def fnExactReadTokenUptoCard : Claim7 := { stood := { row := fnExactReadTokenUptoRow, standIns := [], harness := (true, "3949481afb3f70e378525bd3f00d5099b9b0d69ba8660796893b2915b9441ce7"), looks := true }, kinds := [], alts := [], laidByText := true, laidKinds := [.data, .data, .data, .sentinel, .sentinel, .data], laidTests := true, laidLooks := .later }
def FnExactReadTokenUptoCardSaid : Prop := Claim7.holds Tryd.pinned (.plain (OpenSpec.upto fnExactReadTokenSpec)) fnExactReadTokenUptoCard
end Rows
end Go.Proofs.YtfbkaoepopmggaaDoor

/-
  DERIVED. GIVEN WITH THE SEED: THE CARDS: each row of YteoaglemkogdaaaDoorRows.lean that lists a variable, with what it lists TIED to the program's text (the seventh form; the later family's looks); each row that meets fmt, with fmt's text TOLD by the authors' own Lean function (tested against real Go, not proved from fmt's source: count such statements apart). THE CARD IS WHAT COUNTS. Prove the row's statement (the work); the ties are given (YteoaglemkogdaaaDoorTie.lean); close each card by the builder's one call (the guide's Derived/Test/ToyasCard.lean, 'card_holds'). Laid BY PROGRAM, IN A SANDBOX (cutbox-door.mjs). By AI agents, Wed Nov 11 2026. No macro, syntax, notation, axiom, sorry.
-/
import Derived.Test.YteoaglemkogdaaaDoorRows
import GoSem.ClaimSeven
namespace Go.Proofs.YteoaglemkogdaaaDoor
namespace Rows

/-- THE TIED CARD OF 'laws.FnExactPassHash'. -/
def fnExactPassHashCard : Claim7 := { stood := { row := fnExactPassHashRow, standIns := [], harness := (true, "5ed8caf17fa84d2a8cff9eebd364fa181b8e71e2f3554e141f34554c6e168d82"), looks := false }, kinds := [], alts := [], laidByText := true, laidKinds := [.data], laidTests := true, laidLooks := .later }
def FnExactPassHashCardSaid : Prop := Claim7.holds Tryd.pinned (.plain (OpenSpec.ofChange fnExactPassHashSpec)) fnExactPassHashCard

/-- THE TIED CARD OF 'laws.FnExactPassCheck'. -/
def fnExactPassCheckCard : Claim7 := { stood := { row := fnExactPassCheckRow, standIns := [], harness := (true, "5ed8caf17fa84d2a8cff9eebd364fa181b8e71e2f3554e141f34554c6e168d82"), looks := false }, kinds := [], alts := [], laidByText := true, laidKinds := [.data], laidTests := true, laidLooks := .later }
def FnExactPassCheckCardSaid : Prop := Claim7.holds Tryd.pinned (.plain (OpenSpec.ofChange fnExactPassCheckSpec)) fnExactPassCheckCard

/-- THE SECOND FORM's CARD OF 'laws.FnExactPassHash'. -/
def fnExactPassHashUptoCard : Claim7 := { stood := { row := fnExactPassHashUptoRow, standIns := [], harness := (true, "5ed8caf17fa84d2a8cff9eebd364fa181b8e71e2f3554e141f34554c6e168d82"), looks := false }, kinds := [], alts := [], laidByText := true, laidKinds := [.data], laidTests := true, laidLooks := .later }
def FnExactPassHashUptoCardSaid : Prop := Claim7.holds Tryd.pinned (.plain (OpenSpec.upto fnExactPassHashSpec)) fnExactPassHashUptoCard

/-- THE SECOND FORM's CARD OF 'laws.FnExactPassCheck'. -/
def fnExactPassCheckUptoCard : Claim7 := { stood := { row := fnExactPassCheckUptoRow, standIns := [], harness := (true, "5ed8caf17fa84d2a8cff9eebd364fa181b8e71e2f3554e141f34554c6e168d82"), looks := false }, kinds := [], alts := [], laidByText := true, laidKinds := [.data], laidTests := true, laidLooks := .later }
def FnExactPassCheckUptoCardSaid : Prop := Claim7.holds Tryd.pinned (.plain (OpenSpec.upto fnExactPassCheckSpec)) fnExactPassCheckUptoCard
end Rows
end Go.Proofs.YteoaglemkogdaaaDoor

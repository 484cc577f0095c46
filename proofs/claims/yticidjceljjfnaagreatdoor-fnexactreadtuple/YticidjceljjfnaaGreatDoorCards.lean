/-
  DERIVED. GIVEN WITH THE SEED: THE CARDS: each row of YticidjceljjfnaaGreatDoorRows.lean that lists a variable, with what it lists TIED to the program's text (the seventh form; the later family's looks); each row that meets fmt, with fmt's text TOLD by the authors' own Lean function (tested against real Go, not proved from fmt's source: count such statements apart). THE CARD IS WHAT COUNTS. Prove the row's statement (the work); the ties are given (YticidjceljjfnaaGreatDoorTie.lean); close each card by the builder's one call (the guide's Derived/Test/ToyasCard.lean, 'card_holds'). Laid BY PROGRAM, IN A SANDBOX (cutbox-door.mjs). By AI agents, Wed Nov 11 2026. No macro, syntax, notation, axiom, sorry.
-/
import Derived.Test.YticidjceljjfnaaGreatDoorRows
import GoSem.ClaimSeven
namespace Go.Proofs.YticidjceljjfnaaGreatDoor
namespace Rows

/-- THE TIED CARD OF 'laws.FnExactTupleText'. -/
def fnExactTupleTextCard : Claim7 := { stood := { row := fnExactTupleTextRow, standIns := [], harness := (true, "47acbf8f58d73fbe778dfe6bdcc6bc1e45016ea504da66baf34f644ac91c1d2e"), looks := true }, kinds := [], alts := [], laidByText := true, laidKinds := [.data, .data, .data], laidTests := true, laidLooks := .later }
def FnExactTupleTextCardSaid : Prop := Claim7.holds Tryz.pinned (.plain (OpenSpec.ofChange fnExactTupleTextSpec)) fnExactTupleTextCard

/-- THE TIED CARD OF 'laws.FnExactReadTuple'. -/
def fnExactReadTupleCard : Claim7 := { stood := { row := fnExactReadTupleRow, standIns := [], harness := (true, "47acbf8f58d73fbe778dfe6bdcc6bc1e45016ea504da66baf34f644ac91c1d2e"), looks := true }, kinds := [], alts := [], laidByText := true, laidKinds := [.data, .data, .data, .data, .sentinel, .sentinel, .pinned], laidTests := true, laidLooks := .later }
def FnExactReadTupleCardSaid : Prop := Claim7.holds Tryz.pinned (.plain (OpenSpec.ofChange fnExactReadTupleSpec)) fnExactReadTupleCard

/-- THE SECOND FORM's CARD OF 'laws.FnExactTupleText'. -/
def fnExactTupleTextUptoCard : Claim7 := { stood := { row := fnExactTupleTextUptoRow, standIns := [], harness := (true, "47acbf8f58d73fbe778dfe6bdcc6bc1e45016ea504da66baf34f644ac91c1d2e"), looks := true }, kinds := [], alts := [], laidByText := true, laidKinds := [.data, .data, .data], laidTests := true, laidLooks := .later }
def FnExactTupleTextUptoCardSaid : Prop := Claim7.holds Tryz.pinned (.plain (OpenSpec.upto fnExactTupleTextSpec)) fnExactTupleTextUptoCard

/-- THE SECOND FORM's CARD OF 'laws.FnExactReadTuple'. -/
def fnExactReadTupleUptoCard : Claim7 := { stood := { row := fnExactReadTupleUptoRow, standIns := [], harness := (true, "47acbf8f58d73fbe778dfe6bdcc6bc1e45016ea504da66baf34f644ac91c1d2e"), looks := true }, kinds := [], alts := [], laidByText := true, laidKinds := [.data, .data, .data, .data, .sentinel, .sentinel, .pinned], laidTests := true, laidLooks := .later }
def FnExactReadTupleUptoCardSaid : Prop := Claim7.holds Tryz.pinned (.plain (OpenSpec.upto fnExactReadTupleSpec)) fnExactReadTupleUptoCard
end Rows
end Go.Proofs.YticidjceljjfnaaGreatDoor

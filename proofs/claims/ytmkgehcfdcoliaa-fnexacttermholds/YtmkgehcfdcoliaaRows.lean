/-
  No cell of these rows narrows 'for every input' (looked for: loops, veiled, ifaces, maps, wideKeys, modest, calm, conditions, laid).
  DERIVED. THE GIVEN ROWS OF THIS SEAT. 2 by the template 'for every input the law returns true; each argument reads behind the call as it read before'; 0 by the template 'total and deterministic' (their statements: YtmkgehcfdcoliaaTotals.lean).
  GIVEN WITH THE SEED: the statements are not yours to turn. If you find one false, say at which input.
  Laid BY PROGRAM, IN A SANDBOX (cutbox-rows.mjs): the forced cells as the released guide's own fill.sh prints them over the translation a3a9c5f486181aca… (all of the seat's roots in one cut). By AI agents, Wed Nov 11 2026. No macro, syntax, notation, axiom, sorry.
-/
import Derived.Test.YtmkgehcfdcoliaaChecked
import GoSem.Claim
import GoSem.ClaimJoined
import GoSem.ClaimMapViews
import Derived.JoinedTies
import Derived.KernelRfl
namespace Go.Proofs.Ytmkgehcfdcoliaa
/- THE CELL 'sum', in the pinned program and in every row, IS THE sha256 OF THE DUMP (.gsa) THAT YtmkgehcfdcoliaaProg.lean LOADS. Nothing in Lean hashes anything: it is a label: what it is worth is what the hold of that sum in a sandbox is worth. -/
noncomputable def Try.pinned : Pinned := { name := "ytmkgehcfdcoliaa", sum := "a3a9c5f486181aca61425e849f09fa0037e3124a6f03a12a3ccda7b7db4bf0a2", checked := Try.checked }
namespace Rows
def none {H : Type} : Left H := { results := [], args := [] }

/-- 'laws.FnExactGoodCaveat': WHATEVER THE INPUT: true; the input reads as it did. -/
def fnExactGoodCaveatSpec : ChangeSpec := { name := "fnExactGoodCaveat", fn := fun _ => fun
  | [d] => { results := [.lit (.bool true)], args := [d] }
  | _ => none }
def fnExactGoodCaveatRow : OpenClaim := { program := "ytmkgehcfdcoliaa", sum := "a3a9c5f486181aca61425e849f09fa0037e3124a6f03a12a3ccda7b7db4bf0a2", func := "loop.example/g00036/laws.FnExactGoodCaveat", spec := "fnExactGoodCaveat", inPlace := ["internal/bytealg.abigen_runtime_cmpstring"], unfollowed := true, recurses := true, apart := false }
def FnExactGoodCaveatSaid : Prop := fnExactGoodCaveatRow.holds Try.pinned (OpenSpec.ofChange fnExactGoodCaveatSpec)

/-- ITS FALSE NEIGHBOUR: 'it returns false'. Refute it at one input. -/
def fnExactGoodCaveatWrong : ChangeSpec := { name := "fnExactGoodCaveat", fn := fun _ => fun
  | [d] => { results := [.lit (.bool false)], args := [d] }
  | _ => none }
def FnExactGoodCaveatWrongFalsely : Prop := fnExactGoodCaveatRow.holds Try.pinned (OpenSpec.ofChange fnExactGoodCaveatWrong)

/-- 'laws.FnExactTermHolds': WHATEVER THE INPUT: true; the input reads as it did. -/
def fnExactTermHoldsSpec : ChangeSpec := { name := "fnExactTermHolds", fn := fun _ => fun
  | [d1, d2, d3] => { results := [.lit (.bool true)], args := [d1, d2, d3] }
  | _ => none }
def fnExactTermHoldsRow : OpenClaim := { program := "ytmkgehcfdcoliaa", sum := "a3a9c5f486181aca61425e849f09fa0037e3124a6f03a12a3ccda7b7db4bf0a2", func := "loop.example/g00036/laws.FnExactTermHolds", spec := "fnExactTermHolds", inPlace := ["internal/bytealg.abigen_runtime_cmpstring"], unfollowed := true, recurses := true, apart := false }
def FnExactTermHoldsSaid : Prop := fnExactTermHoldsRow.holds Try.pinned (OpenSpec.ofChange fnExactTermHoldsSpec)

/-- ITS FALSE NEIGHBOUR: 'it returns false'. Refute it at one input. -/
def fnExactTermHoldsWrong : ChangeSpec := { name := "fnExactTermHolds", fn := fun _ => fun
  | [d1, d2, d3] => { results := [.lit (.bool false)], args := [d1, d2, d3] }
  | _ => none }
def FnExactTermHoldsWrongFalsely : Prop := fnExactTermHoldsRow.holds Try.pinned (OpenSpec.ofChange fnExactTermHoldsWrong)

/- THE SECOND FORM. 'bulk': how many values and letters a reading holds, each counted each time it is reached (what is shared counts as often as it is met; a slice's spare places count too). A statement '..UptoSaid' is the law's where the arguments, and the package variables that the reading takes, are together of bulk at most 1048576: NARROWER than '..Said'. Prove '..Said' where nothing that the law and all that it calls make is longer than what came in: it says more and counts as full. Else prove '..UptoSaid'. A law counts once. -/
mutual
def uptoBulk {H : Type} : DataW H → Nat
  | .lit (.string bytes) => bytes.length + 1
  | .lit _ => 1
  | .nil => 1
  | .ptr d => uptoBulk d + 1
  | .slice elems spare => uptoBulkAll elems + uptoBulkAll spare + 1
  | .agg parts => uptoBulkAll parts + 1
  | .iface _ d => uptoBulk d + 1
  | .map entries => uptoBulkEntries entries + 1
  | .held _ => 1
def uptoBulkAll {H : Type} : List (DataW H) → Nat
  | [] => 0
  | d :: r => uptoBulk d + uptoBulkAll r
def uptoBulkEntries {H : Type} : List (Lit × DataW H) → Nat
  | [] => 0
  | x :: r => uptoBulkEntry x + uptoBulkEntries r
def uptoBulkEntry {H : Type} : Lit × DataW H → Nat
  | (.string bytes, d) => bytes.length + uptoBulk d + 1
  | (_, d) => uptoBulk d + 1
 end
def uptoSmall : (H : Type) → List (DataW H) → Bool := fun _ ds => decide (uptoBulkAll ds ≤ 1048576)
def OpenSpec.upto (s : _root_.Go.ChangeSpec) : _root_.Go.OpenSpec := { _root_.Go.OpenSpec.ofChange s with cond := some uptoSmall }

/-- 'laws.FnExactGoodCaveat', WHERE WHAT IT READS IS OF BULK AT MOST 1048576: true; the input reads as it did. -/
def fnExactGoodCaveatUptoRow : OpenClaim := { program := "ytmkgehcfdcoliaa", sum := "a3a9c5f486181aca61425e849f09fa0037e3124a6f03a12a3ccda7b7db4bf0a2", func := "loop.example/g00036/laws.FnExactGoodCaveat", spec := "fnExactGoodCaveat", inPlace := ["internal/bytealg.abigen_runtime_cmpstring"], unfollowed := true, recurses := true, apart := false, narrowed := true }
def FnExactGoodCaveatUptoSaid : Prop := fnExactGoodCaveatUptoRow.holds Try.pinned (OpenSpec.upto fnExactGoodCaveatSpec)

/-- 'laws.FnExactTermHolds', WHERE WHAT IT READS IS OF BULK AT MOST 1048576: true; the input reads as it did. -/
def fnExactTermHoldsUptoRow : OpenClaim := { program := "ytmkgehcfdcoliaa", sum := "a3a9c5f486181aca61425e849f09fa0037e3124a6f03a12a3ccda7b7db4bf0a2", func := "loop.example/g00036/laws.FnExactTermHolds", spec := "fnExactTermHolds", inPlace := ["internal/bytealg.abigen_runtime_cmpstring"], unfollowed := true, recurses := true, apart := false, narrowed := true }
def FnExactTermHoldsUptoSaid : Prop := fnExactTermHoldsUptoRow.holds Try.pinned (OpenSpec.upto fnExactTermHoldsSpec)

end Rows
end Go.Proofs.Ytmkgehcfdcoliaa

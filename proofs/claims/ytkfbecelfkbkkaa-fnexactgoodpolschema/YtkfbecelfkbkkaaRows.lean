/-
  No cell of these rows narrows 'for every input' (looked for: loops, veiled, ifaces, maps, wideKeys, modest, calm, conditions, laid).
  DERIVED. THE GIVEN ROWS OF THIS SEAT. 3 by the template 'for every input the law returns true; each argument reads behind the call as it read before'; 0 by the template 'total and deterministic' (their statements: YtkfbecelfkbkkaaTotals.lean).
  GIVEN WITH THE SEED: the statements are not yours to turn. If you find one false, say at which input.
  Laid BY PROGRAM, IN A SANDBOX (cutbox-rows.mjs): the forced cells as the released guide's own fill.sh prints them over the translation 172e0f85fd686f3b… (all of the seat's roots in one cut). By AI agents, Wed Nov 11 2026. No macro, syntax, notation, axiom, sorry.
-/
import Derived.Test.YtkfbecelfkbkkaaChecked
import GoSem.Claim
import GoSem.ClaimJoined
import GoSem.ClaimMapViews
import Derived.JoinedTies
import Derived.KernelRfl
namespace Go.Proofs.Ytkfbecelfkbkkaa
/- THE CELL 'sum', in the pinned program and in every row, IS THE sha256 OF THE DUMP (.gsa) THAT YtkfbecelfkbkkaaProg.lean LOADS. Nothing in Lean hashes anything: it is a label: what it is worth is what the hold of that sum in a sandbox is worth. -/
noncomputable def Try.pinned : Pinned := { name := "ytkfbecelfkbkkaa", sum := "172e0f85fd686f3b09eea7dbfd0b37974db1938f8a02a37d76a4ea78893a2ab2", checked := Try.checked }
namespace Rows
def none {H : Type} : Left H := { results := [], args := [] }

/-- 'laws.FnExactGoodThings': WHATEVER THE INPUT: true; the input reads as it did. -/
def fnExactGoodThingsSpec : ChangeSpec := { name := "fnExactGoodThings", fn := fun _ => fun
  | [d] => { results := [.lit (.bool true)], args := [d] }
  | _ => none }
def fnExactGoodThingsRow : OpenClaim := { program := "ytkfbecelfkbkkaa", sum := "172e0f85fd686f3b09eea7dbfd0b37974db1938f8a02a37d76a4ea78893a2ab2", func := "loop.example/g00036/laws.FnExactGoodThings", spec := "fnExactGoodThings", inPlace := ["internal/bytealg.abigen_runtime_cmpstring"], unfollowed := true, recurses := true, apart := false }
def FnExactGoodThingsSaid : Prop := fnExactGoodThingsRow.holds Try.pinned (OpenSpec.ofChange fnExactGoodThingsSpec)

/-- ITS FALSE NEIGHBOUR: 'it returns false'. Refute it at one input. -/
def fnExactGoodThingsWrong : ChangeSpec := { name := "fnExactGoodThings", fn := fun _ => fun
  | [d] => { results := [.lit (.bool false)], args := [d] }
  | _ => none }
def FnExactGoodThingsWrongFalsely : Prop := fnExactGoodThingsRow.holds Try.pinned (OpenSpec.ofChange fnExactGoodThingsWrong)

/-- 'laws.FnExactGoodRequest': WHATEVER THE INPUT: true; the input reads as it did. -/
def fnExactGoodRequestSpec : ChangeSpec := { name := "fnExactGoodRequest", fn := fun _ => fun
  | [d] => { results := [.lit (.bool true)], args := [d] }
  | _ => none }
def fnExactGoodRequestRow : OpenClaim := { program := "ytkfbecelfkbkkaa", sum := "172e0f85fd686f3b09eea7dbfd0b37974db1938f8a02a37d76a4ea78893a2ab2", func := "loop.example/g00036/laws.FnExactGoodRequest", spec := "fnExactGoodRequest", inPlace := ["internal/bytealg.abigen_runtime_cmpstring"], unfollowed := true, recurses := true, apart := false }
def FnExactGoodRequestSaid : Prop := fnExactGoodRequestRow.holds Try.pinned (OpenSpec.ofChange fnExactGoodRequestSpec)

/-- ITS FALSE NEIGHBOUR: 'it returns false'. Refute it at one input. -/
def fnExactGoodRequestWrong : ChangeSpec := { name := "fnExactGoodRequest", fn := fun _ => fun
  | [d] => { results := [.lit (.bool false)], args := [d] }
  | _ => none }
def FnExactGoodRequestWrongFalsely : Prop := fnExactGoodRequestRow.holds Try.pinned (OpenSpec.ofChange fnExactGoodRequestWrong)

/-- 'laws.FnExactGoodPolSchema': WHATEVER THE INPUT: true; the input reads as it did. -/
def fnExactGoodPolSchemaSpec : ChangeSpec := { name := "fnExactGoodPolSchema", fn := fun _ => fun
  | [d] => { results := [.lit (.bool true)], args := [d] }
  | _ => none }
def fnExactGoodPolSchemaRow : OpenClaim := { program := "ytkfbecelfkbkkaa", sum := "172e0f85fd686f3b09eea7dbfd0b37974db1938f8a02a37d76a4ea78893a2ab2", func := "loop.example/g00036/laws.FnExactGoodPolSchema", spec := "fnExactGoodPolSchema", inPlace := ["internal/bytealg.abigen_runtime_cmpstring"], unfollowed := true, recurses := true, apart := false }
def FnExactGoodPolSchemaSaid : Prop := fnExactGoodPolSchemaRow.holds Try.pinned (OpenSpec.ofChange fnExactGoodPolSchemaSpec)

/-- ITS FALSE NEIGHBOUR: 'it returns false'. Refute it at one input. -/
def fnExactGoodPolSchemaWrong : ChangeSpec := { name := "fnExactGoodPolSchema", fn := fun _ => fun
  | [d] => { results := [.lit (.bool false)], args := [d] }
  | _ => none }
def FnExactGoodPolSchemaWrongFalsely : Prop := fnExactGoodPolSchemaRow.holds Try.pinned (OpenSpec.ofChange fnExactGoodPolSchemaWrong)

/- THE SECOND FORM. 'bulk': how many values and letters a reading holds, each counted each time it is reached (what is shared counts as often as it is met; a slice's spare places count too). A statement '..UptoSaid' is the law's where the arguments, and the package variables that the reading takes, are together of bulk at most 1048576: NARROWER than '..Said'. Prove '..Said' where nothing that the law and all that it calls make is longer than what came in: it says more and counts as full. Else prove '..UptoSaid'. A law counts once. -/
mutual
def uptoBulk {H : Type} : DataW H → Nat
  | .lit (.string bytes) => bytes.length + 1
  | .lit _ => 1
  | .nil => 1
  | .ptr d => uptoBulk d + 1
  | .slice elems spare => uptoBulkAll elems + uptoBulkAll spare + 1
  | .agg parts => uptoBulkAll parts + 1
  | .iface _ d => uptoBulk d + 1
  | .map entries => uptoBulkEntries entries + 1
  | .held _ => 1
def uptoBulkAll {H : Type} : List (DataW H) → Nat
  | [] => 0
  | d :: r => uptoBulk d + uptoBulkAll r
def uptoBulkEntries {H : Type} : List (Lit × DataW H) → Nat
  | [] => 0
  | x :: r => uptoBulkEntry x + uptoBulkEntries r
def uptoBulkEntry {H : Type} : Lit × DataW H → Nat
  | (.string bytes, d) => bytes.length + uptoBulk d + 1
  | (_, d) => uptoBulk d + 1
 end
def uptoSmall : (H : Type) → List (DataW H) → Bool := fun _ ds => decide (uptoBulkAll ds ≤ 1048576)
def OpenSpec.upto (s : _root_.Go.ChangeSpec) : _root_.Go.OpenSpec := { _root_.Go.OpenSpec.ofChange s with cond := some uptoSmall }

/-- 'laws.FnExactGoodThings', WHERE WHAT IT READS IS OF BULK AT MOST 1048576: true; the input reads as it did. -/
def fnExactGoodThingsUptoRow : OpenClaim := { program := "ytkfbecelfkbkkaa", sum := "172e0f85fd686f3b09eea7dbfd0b37974db1938f8a02a37d76a4ea78893a2ab2", func := "loop.example/g00036/laws.FnExactGoodThings", spec := "fnExactGoodThings", inPlace := ["internal/bytealg.abigen_runtime_cmpstring"], unfollowed := true, recurses := true, apart := false, narrowed := true }
def FnExactGoodThingsUptoSaid : Prop := fnExactGoodThingsUptoRow.holds Try.pinned (OpenSpec.upto fnExactGoodThingsSpec)

/-- 'laws.FnExactGoodRequest', WHERE WHAT IT READS IS OF BULK AT MOST 1048576: true; the input reads as it did. -/
def fnExactGoodRequestUptoRow : OpenClaim := { program := "ytkfbecelfkbkkaa", sum := "172e0f85fd686f3b09eea7dbfd0b37974db1938f8a02a37d76a4ea78893a2ab2", func := "loop.example/g00036/laws.FnExactGoodRequest", spec := "fnExactGoodRequest", inPlace := ["internal/bytealg.abigen_runtime_cmpstring"], unfollowed := true, recurses := true, apart := false, narrowed := true }
def FnExactGoodRequestUptoSaid : Prop := fnExactGoodRequestUptoRow.holds Try.pinned (OpenSpec.upto fnExactGoodRequestSpec)

/-- 'laws.FnExactGoodPolSchema', WHERE WHAT IT READS IS OF BULK AT MOST 1048576: true; the input reads as it did. -/
def fnExactGoodPolSchemaUptoRow : OpenClaim := { program := "ytkfbecelfkbkkaa", sum := "172e0f85fd686f3b09eea7dbfd0b37974db1938f8a02a37d76a4ea78893a2ab2", func := "loop.example/g00036/laws.FnExactGoodPolSchema", spec := "fnExactGoodPolSchema", inPlace := ["internal/bytealg.abigen_runtime_cmpstring"], unfollowed := true, recurses := true, apart := false, narrowed := true }
def FnExactGoodPolSchemaUptoSaid : Prop := fnExactGoodPolSchemaUptoRow.holds Try.pinned (OpenSpec.upto fnExactGoodPolSchemaSpec)

end Rows
end Go.Proofs.Ytkfbecelfkbkkaa

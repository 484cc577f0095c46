/-
  NARROWER THAN 'FOR EVERY INPUT', by the rows' own cells (each row's printed sentence says how): FnExactFitsKind: laid.
  DERIVED. THE GIVEN ROWS OF THIS SEAT. 1 by the template 'for every input the law returns true; each argument reads behind the call as it read before'; 0 by the template 'total and deterministic' (their statements: YtkfbecelfkbkkaaDoorTotals.lean).
  GIVEN WITH THE SEED: the statements are not yours to turn. If you find one false, say at which input.
  Laid BY PROGRAM, IN A SANDBOX (cutbox-rows.mjs): the forced cells as the released guide's own fill.sh prints them over the translation 8cbcb3b8c2cc5841… (all of the seat's roots in one cut). By AI agents, Wed Nov 11 2026. No macro, syntax, notation, axiom, sorry.
-/
import Derived.Test.YtkfbecelfkbkkaaDoorChecked
import GoSem.Claim
import GoSem.ClaimJoined
import GoSem.ClaimMapViews
import Derived.JoinedTies
import Derived.KernelRfl
namespace Go.Proofs.YtkfbecelfkbkkaaDoor
/- THE CELL 'sum', in the pinned program and in every row, IS THE sha256 OF THE DUMP (.gsa) THAT YtkfbecelfkbkkaaDoorProg.lean LOADS. Nothing in Lean hashes anything: it is a label: what it is worth is what the hold of that sum in a sandbox is worth. -/
noncomputable def Tryd.pinned : Pinned := { name := "ytkfbecelfkbkkaadoor", sum := "8cbcb3b8c2cc5841f587d4002a3e865709998f4f9d664c2ce2d44d1881483c11", checked := Tryd.checked }
namespace Rows
def none {H : Type} : Left H := { results := [], args := [] }

/- WHAT THE LISTED PACKAGE-LEVEL VARIABLES READ AS WHEN THE CALL BEGINS. Each datum BY PROGRAM (the guide's laid-datum.mjs) off the statement by which the dump's own 'gosem.cut.vars' lays the variable. In a bare row this is a premise. The card (YtkfbecelfkbkkaaDoorCards.lean) ties it to the program's text. -/
def laid_loop_example_g00036_impl_kindWords {H : Type} : DataW H := .agg [.lit (.string []), .lit (.string [98, 111, 111, 108]), .lit (.string [110, 117, 109]), .lit (.string [116, 101, 120, 116]), .lit (.string [114, 101, 102]), .lit (.string [100, 101, 99]), .lit (.string [97, 100, 100, 114]), .lit (.string [116, 105, 109, 101])]

/-- 'laws.FnExactFitsKind': WHATEVER THE INPUT: true; the input reads as it did. -/
def fnExactFitsKindSpec : ChangeSpec := { name := "fnExactFitsKind", vars := ["loop.example/g00036/impl.kindWords"], fn := fun _ => fun
  | [d1, d2, g1] => { results := [.lit (.bool true)], args := [d1, d2], vars := [g1] }
  | _ => none }
def fnExactFitsKindRow : OpenClaim := { program := "ytkfbecelfkbkkaadoor", sum := "8cbcb3b8c2cc5841f587d4002a3e865709998f4f9d664c2ce2d44d1881483c11", func := "loop.example/g00036/laws.FnExactFitsKind", spec := "fnExactFitsKind", inPlace := ["internal/bytealg.abigen_runtime_cmpstring"], unfollowed := true, recurses := true, named := ["loop.example/g00036/impl.kindWords"], apart := false, laid := [("loop.example/g00036/impl.kindWords", laid_loop_example_g00036_impl_kindWords)] }
def FnExactFitsKindSaid : Prop := fnExactFitsKindRow.holds Tryd.pinned (OpenSpec.ofChange fnExactFitsKindSpec)

/-- ITS FALSE NEIGHBOUR: 'it returns false'. Refute it at one input. -/
def fnExactFitsKindWrong : ChangeSpec := { name := "fnExactFitsKind", vars := ["loop.example/g00036/impl.kindWords"], fn := fun _ => fun
  | [d1, d2, g1] => { results := [.lit (.bool false)], args := [d1, d2], vars := [g1] }
  | _ => none }
def FnExactFitsKindWrongFalsely : Prop := fnExactFitsKindRow.holds Tryd.pinned (OpenSpec.ofChange fnExactFitsKindWrong)

/- THE SECOND FORM. 'bulk': how many values and letters a reading holds, each counted each time it is reached (what is shared counts as often as it is met; a slice's spare places count too). A statement '..UptoSaid' is the law's where the arguments, and the package variables that the reading takes, are together of bulk at most 1048576: NARROWER than '..Said'. Prove '..Said' where nothing that the law and all that it calls make is longer than what came in: it says more and counts as full. Else prove '..UptoSaid'. A law counts once. -/
mutual
def uptoBulk {H : Type} : DataW H → Nat
  | .lit (.string bytes) => bytes.length + 1
  | .lit _ => 1
  | .nil => 1
  | .ptr d => uptoBulk d + 1
  | .slice elems spare => uptoBulkAll elems + uptoBulkAll spare + 1
  | .agg parts => uptoBulkAll parts + 1
  | .iface _ d => uptoBulk d + 1
  | .map entries => uptoBulkEntries entries + 1
  | .held _ => 1
def uptoBulkAll {H : Type} : List (DataW H) → Nat
  | [] => 0
  | d :: r => uptoBulk d + uptoBulkAll r
def uptoBulkEntries {H : Type} : List (Lit × DataW H) → Nat
  | [] => 0
  | x :: r => uptoBulkEntry x + uptoBulkEntries r
def uptoBulkEntry {H : Type} : Lit × DataW H → Nat
  | (.string bytes, d) => bytes.length + uptoBulk d + 1
  | (_, d) => uptoBulk d + 1
 end
def uptoSmall : (H : Type) → List (DataW H) → Bool := fun _ ds => decide (uptoBulkAll ds ≤ 1048576)
def OpenSpec.upto (s : _root_.Go.ChangeSpec) : _root_.Go.OpenSpec := { _root_.Go.OpenSpec.ofChange s with cond := some uptoSmall }

/-- 'laws.FnExactFitsKind', WHERE WHAT IT READS IS OF BULK AT MOST 1048576: true; the input reads as it did. -/
def fnExactFitsKindUptoRow : OpenClaim := { program := "ytkfbecelfkbkkaadoor", sum := "8cbcb3b8c2cc5841f587d4002a3e865709998f4f9d664c2ce2d44d1881483c11", func := "loop.example/g00036/laws.FnExactFitsKind", spec := "fnExactFitsKind", inPlace := ["internal/bytealg.abigen_runtime_cmpstring"], unfollowed := true, recurses := true, named := ["loop.example/g00036/impl.kindWords"], apart := false, laid := [("loop.example/g00036/impl.kindWords", laid_loop_example_g00036_impl_kindWords)], narrowed := true }
def FnExactFitsKindUptoSaid : Prop := fnExactFitsKindUptoRow.holds Tryd.pinned (OpenSpec.upto fnExactFitsKindSpec)

end Rows
end Go.Proofs.YtkfbecelfkbkkaaDoor

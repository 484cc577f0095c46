/-
  NARROWER THAN 'FOR EVERY INPUT', by the rows' own cells (each row's printed sentence says how): FnChallenged: laid.
  DERIVED. THE GIVEN ROWS OF THIS SEAT. 1 by the template 'for every input the law returns true; each argument reads behind the call as it read before'; 0 by the template 'total and deterministic' (their statements: YtlgloffdinnpfaaDoorTotals.lean).
  GIVEN WITH THE SEED: the statements are not yours to turn. If you find one false, say at which input.
  Laid BY PROGRAM, IN A SANDBOX (cutbox-rows.mjs): the forced cells as the released guide's own fill.sh prints them over the translation c21be22bc9411485… (all of the seat's roots in one cut). By AI agents, Wed Nov 11 2026. No macro, syntax, notation, axiom, sorry.
-/
import Derived.Test.YtlgloffdinnpfaaDoorChecked
import GoSem.Claim
import GoSem.ClaimJoined
import GoSem.ClaimMapViews
import Derived.JoinedTies
import Derived.KernelRfl
namespace Go.Proofs.YtlgloffdinnpfaaDoor
/- THE CELL 'sum', in the pinned program and in every row, IS THE sha256 OF THE DUMP (.gsa) THAT YtlgloffdinnpfaaDoorProg.lean LOADS. Nothing in Lean hashes anything: it is a label: what it is worth is what the hold of that sum in a sandbox is worth. -/
noncomputable def Tryd.pinned : Pinned := { name := "ytlgloffdinnpfaadoor", sum := "c21be22bc9411485157b6cd780a350d57125666dc10a145662c1ab656b269397", checked := Tryd.checked }
namespace Rows
def none {H : Type} : Left H := { results := [], args := [] }

/- WHAT THE LISTED PACKAGE-LEVEL VARIABLES READ AS WHEN THE CALL BEGINS. Each datum BY PROGRAM (the guide's laid-datum.mjs) off the statement by which the dump's own 'gosem.cut.vars' lays the variable. In a bare row this is a premise. The card (YtlgloffdinnpfaaDoorCards.lean) ties it to the program's text. -/
def laid_loop_example_g00036_impl_multipliers {H : Type} : DataW H := .agg [.lit (.int .i64 1103515245), .lit (.int .i64 69069), .lit (.int .i64 1664525), .lit (.int .i64 22695477)]

/-- 'laws.FnChallenged': WHATEVER THE INPUT: true; the input reads as it did. -/
def fnChallengedSpec : ChangeSpec := { name := "fnChallenged", vars := ["loop.example/g00036/impl.multipliers"], fn := fun _ => fun
  | [d, g1] => { results := [.lit (.bool true)], args := [d], vars := [g1] }
  | _ => none }
def fnChallengedRow : OpenClaim := { program := "ytlgloffdinnpfaadoor", sum := "c21be22bc9411485157b6cd780a350d57125666dc10a145662c1ab656b269397", func := "loop.example/g00036/laws.FnChallenged", spec := "fnChallenged", unfollowed := true, recurses := true, named := ["loop.example/g00036/impl.multipliers"], apart := false, laid := [("loop.example/g00036/impl.multipliers", laid_loop_example_g00036_impl_multipliers)] }
def FnChallengedSaid : Prop := fnChallengedRow.holds Tryd.pinned (OpenSpec.ofChange fnChallengedSpec)

/-- ITS FALSE NEIGHBOUR: 'it returns false'. Refute it at one input. -/
def fnChallengedWrong : ChangeSpec := { name := "fnChallenged", vars := ["loop.example/g00036/impl.multipliers"], fn := fun _ => fun
  | [d, g1] => { results := [.lit (.bool false)], args := [d], vars := [g1] }
  | _ => none }
def FnChallengedWrongFalsely : Prop := fnChallengedRow.holds Tryd.pinned (OpenSpec.ofChange fnChallengedWrong)

/- THE SECOND FORM. 'bulk': how many values and letters a reading holds, each counted each time it is reached (what is shared counts as often as it is met; a slice's spare places count too). A statement '..UptoSaid' is the law's where the arguments, and the package variables that the reading takes, are together of bulk at most 1048576: NARROWER than '..Said'. Prove '..Said' where nothing that the law and all that it calls make is longer than what came in: it says more and counts as full. Else prove '..UptoSaid'. A law counts once. -/
mutual
def uptoBulk {H : Type} : DataW H → Nat
  | .lit (.string bytes) => bytes.length + 1
  | .lit _ => 1
  | .nil => 1
  | .ptr d => uptoBulk d + 1
  | .slice elems spare => uptoBulkAll elems + uptoBulkAll spare + 1
  | .agg parts => uptoBulkAll parts + 1
  | .iface _ d => uptoBulk d + 1
  | .map entries => uptoBulkEntries entries + 1
  | .held _ => 1
def uptoBulkAll {H : Type} : List (DataW H) → Nat
  | [] => 0
  | d :: r => uptoBulk d + uptoBulkAll r
def uptoBulkEntries {H : Type} : List (Lit × DataW H) → Nat
  | [] => 0
  | x :: r => uptoBulkEntry x + uptoBulkEntries r
def uptoBulkEntry {H : Type} : Lit × DataW H → Nat
  | (.string bytes, d) => bytes.length + uptoBulk d + 1
  | (_, d) => uptoBulk d + 1
 end
def uptoSmall : (H : Type) → List (DataW H) → Bool := fun _ ds => decide (uptoBulkAll ds ≤ 1048576)
def OpenSpec.upto (s : _root_.Go.ChangeSpec) : _root_.Go.OpenSpec := { _root_.Go.OpenSpec.ofChange s with cond := some uptoSmall }

/-- 'laws.FnChallenged', WHERE WHAT IT READS IS OF BULK AT MOST 1048576: true; the input reads as it did. -/
def fnChallengedUptoRow : OpenClaim := { program := "ytlgloffdinnpfaadoor", sum := "c21be22bc9411485157b6cd780a350d57125666dc10a145662c1ab656b269397", func := "loop.example/g00036/laws.FnChallenged", spec := "fnChallenged", unfollowed := true, recurses := true, named := ["loop.example/g00036/impl.multipliers"], apart := false, laid := [("loop.example/g00036/impl.multipliers", laid_loop_example_g00036_impl_multipliers)], narrowed := true }
def FnChallengedUptoSaid : Prop := fnChallengedUptoRow.holds Tryd.pinned (OpenSpec.upto fnChallengedSpec)

end Rows
end Go.Proofs.YtlgloffdinnpfaaDoor

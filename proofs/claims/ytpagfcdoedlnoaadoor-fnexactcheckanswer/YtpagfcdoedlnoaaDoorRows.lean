/-
  NARROWER THAN 'FOR EVERY INPUT', by the rows' own cells (each row's printed sentence says how): FnExactAnswerChallenge: laid · FnExactCheckAnswer: laid.
  DERIVED. THE GIVEN ROWS OF THIS SEAT. 2 by the template 'for every input the law returns true; each argument reads behind the call as it read before'; 0 by the template 'total and deterministic' (their statements: YtpagfcdoedlnoaaDoorTotals.lean).
  GIVEN WITH THE SEED: the statements are not yours to turn. If you find one false, say at which input.
  Laid BY PROGRAM, IN A SANDBOX (cutbox-rows.mjs): the forced cells as the released guide's own fill.sh prints them over the translation 0bac214989b831a2… (all of the seat's roots in one cut). By AI agents, Wed Nov 11 2026. No macro, syntax, notation, axiom, sorry.
-/
import Derived.Test.YtpagfcdoedlnoaaDoorChecked
import GoSem.Claim
import GoSem.ClaimJoined
import GoSem.ClaimMapViews
import Derived.JoinedTies
import Derived.KernelRfl
namespace Go.Proofs.YtpagfcdoedlnoaaDoor
/- THE CELL 'sum', in the pinned program and in every row, IS THE sha256 OF THE DUMP (.gsa) THAT YtpagfcdoedlnoaaDoorProg.lean LOADS. Nothing in Lean hashes anything: it is a label: what it is worth is what the hold of that sum in a sandbox is worth. -/
noncomputable def Tryd.pinned : Pinned := { name := "ytpagfcdoedlnoaadoor", sum := "0bac214989b831a24a34e319016b2117dee4f754073ed3b424da9af95a92c4a7", checked := Tryd.checked }
namespace Rows
def none {H : Type} : Left H := { results := [], args := [] }

/- WHAT THE LISTED PACKAGE-LEVEL VARIABLES READ AS WHEN THE CALL BEGINS. Each datum BY PROGRAM (the guide's laid-datum.mjs) off the statement by which the dump's own 'gosem.cut.vars' lays the variable. In a bare row this is a premise. The card (YtpagfcdoedlnoaaDoorCards.lean) ties it to the program's text. -/
def laid_loop_example_g00036_impl_multipliers {H : Type} : DataW H := .agg [.lit (.int .i64 1103515245), .lit (.int .i64 69069), .lit (.int .i64 1664525), .lit (.int .i64 22695477)]

/-- 'laws.FnExactAnswerChallenge': WHATEVER THE INPUT: true; the input reads as it did. -/
def fnExactAnswerChallengeSpec : ChangeSpec := { name := "fnExactAnswerChallenge", vars := ["loop.example/g00036/impl.multipliers"], fn := fun _ => fun
  | [d1, d2, d3, d4, g1] => { results := [.lit (.bool true)], args := [d1, d2, d3, d4], vars := [g1] }
  | _ => none }
def fnExactAnswerChallengeRow : OpenClaim := { program := "ytpagfcdoedlnoaadoor", sum := "0bac214989b831a24a34e319016b2117dee4f754073ed3b424da9af95a92c4a7", func := "loop.example/g00036/laws.FnExactAnswerChallenge", spec := "fnExactAnswerChallenge", unfollowed := true, recurses := true, named := ["loop.example/g00036/impl.multipliers"], apart := false, laid := [("loop.example/g00036/impl.multipliers", laid_loop_example_g00036_impl_multipliers)] }
def FnExactAnswerChallengeSaid : Prop := fnExactAnswerChallengeRow.holds Tryd.pinned (OpenSpec.ofChange fnExactAnswerChallengeSpec)

/-- ITS FALSE NEIGHBOUR: 'it returns false'. Refute it at one input. -/
def fnExactAnswerChallengeWrong : ChangeSpec := { name := "fnExactAnswerChallenge", vars := ["loop.example/g00036/impl.multipliers"], fn := fun _ => fun
  | [d1, d2, d3, d4, g1] => { results := [.lit (.bool false)], args := [d1, d2, d3, d4], vars := [g1] }
  | _ => none }
def FnExactAnswerChallengeWrongFalsely : Prop := fnExactAnswerChallengeRow.holds Tryd.pinned (OpenSpec.ofChange fnExactAnswerChallengeWrong)

/-- 'laws.FnExactCheckAnswer': WHATEVER THE INPUT: true; the input reads as it did. -/
def fnExactCheckAnswerSpec : ChangeSpec := { name := "fnExactCheckAnswer", vars := ["loop.example/g00036/impl.multipliers"], fn := fun _ => fun
  | [d1, d2, d3, g1] => { results := [.lit (.bool true)], args := [d1, d2, d3], vars := [g1] }
  | _ => none }
def fnExactCheckAnswerRow : OpenClaim := { program := "ytpagfcdoedlnoaadoor", sum := "0bac214989b831a24a34e319016b2117dee4f754073ed3b424da9af95a92c4a7", func := "loop.example/g00036/laws.FnExactCheckAnswer", spec := "fnExactCheckAnswer", unfollowed := true, recurses := true, named := ["loop.example/g00036/impl.multipliers"], apart := false, laid := [("loop.example/g00036/impl.multipliers", laid_loop_example_g00036_impl_multipliers)] }
def FnExactCheckAnswerSaid : Prop := fnExactCheckAnswerRow.holds Tryd.pinned (OpenSpec.ofChange fnExactCheckAnswerSpec)

/-- ITS FALSE NEIGHBOUR: 'it returns false'. Refute it at one input. -/
def fnExactCheckAnswerWrong : ChangeSpec := { name := "fnExactCheckAnswer", vars := ["loop.example/g00036/impl.multipliers"], fn := fun _ => fun
  | [d1, d2, d3, g1] => { results := [.lit (.bool false)], args := [d1, d2, d3], vars := [g1] }
  | _ => none }
def FnExactCheckAnswerWrongFalsely : Prop := fnExactCheckAnswerRow.holds Tryd.pinned (OpenSpec.ofChange fnExactCheckAnswerWrong)

/- THE SECOND FORM. 'bulk': how many values and letters a reading holds, each counted each time it is reached (what is shared counts as often as it is met; a slice's spare places count too). A statement '..UptoSaid' is the law's where the arguments, and the package variables that the reading takes, are together of bulk at most 1048576: NARROWER than '..Said'. Prove '..Said' where nothing that the law and all that it calls make is longer than what came in: it says more and counts as full. Else prove '..UptoSaid'. A law counts once. -/
mutual
def uptoBulk {H : Type} : DataW H → Nat
  | .lit (.string bytes) => bytes.length + 1
  | .lit _ => 1
  | .nil => 1
  | .ptr d => uptoBulk d + 1
  | .slice elems spare => uptoBulkAll elems + uptoBulkAll spare + 1
  | .agg parts => uptoBulkAll parts + 1
  | .iface _ d => uptoBulk d + 1
  | .map entries => uptoBulkEntries entries + 1
  | .held _ => 1
def uptoBulkAll {H : Type} : List (DataW H) → Nat
  | [] => 0
  | d :: r => uptoBulk d + uptoBulkAll r
def uptoBulkEntries {H : Type} : List (Lit × DataW H) → Nat
  | [] => 0
  | x :: r => uptoBulkEntry x + uptoBulkEntries r
def uptoBulkEntry {H : Type} : Lit × DataW H → Nat
  | (.string bytes, d) => bytes.length + uptoBulk d + 1
  | (_, d) => uptoBulk d + 1
 end
def uptoSmall : (H : Type) → List (DataW H) → Bool := fun _ ds => decide (uptoBulkAll ds ≤ 1048576)
def OpenSpec.upto (s : _root_.Go.ChangeSpec) : _root_.Go.OpenSpec := { _root_.Go.OpenSpec.ofChange s with cond := some uptoSmall }

/-- 'laws.FnExactAnswerChallenge', WHERE WHAT IT READS IS OF BULK AT MOST 1048576: true; the input reads as it did. -/
def fnExactAnswerChallengeUptoRow : OpenClaim := { program := "ytpagfcdoedlnoaadoor", sum := "0bac214989b831a24a34e319016b2117dee4f754073ed3b424da9af95a92c4a7", func := "loop.example/g00036/laws.FnExactAnswerChallenge", spec := "fnExactAnswerChallenge", unfollowed := true, recurses := true, named := ["loop.example/g00036/impl.multipliers"], apart := false, laid := [("loop.example/g00036/impl.multipliers", laid_loop_example_g00036_impl_multipliers)], narrowed := true }
def FnExactAnswerChallengeUptoSaid : Prop := fnExactAnswerChallengeUptoRow.holds Tryd.pinned (OpenSpec.upto fnExactAnswerChallengeSpec)

/-- 'laws.FnExactCheckAnswer', WHERE WHAT IT READS IS OF BULK AT MOST 1048576: true; the input reads as it did. -/
def fnExactCheckAnswerUptoRow : OpenClaim := { program := "ytpagfcdoedlnoaadoor", sum := "0bac214989b831a24a34e319016b2117dee4f754073ed3b424da9af95a92c4a7", func := "loop.example/g00036/laws.FnExactCheckAnswer", spec := "fnExactCheckAnswer", unfollowed := true, recurses := true, named := ["loop.example/g00036/impl.multipliers"], apart := false, laid := [("loop.example/g00036/impl.multipliers", laid_loop_example_g00036_impl_multipliers)], narrowed := true }
def FnExactCheckAnswerUptoSaid : Prop := fnExactCheckAnswerUptoRow.holds Tryd.pinned (OpenSpec.upto fnExactCheckAnswerSpec)

end Rows
end Go.Proofs.YtpagfcdoedlnoaaDoor

/-
  NARROWER THAN 'FOR EVERY INPUT', by the rows' own cells (each row's printed sentence says how): FnSigned: laid · FnShared: laid · FnExactDigest: laid · FnExactMac: laid · FnExactSign: laid · FnExactVerify: laid · FnExactSplit: laid.
  DERIVED. THE GIVEN ROWS OF THIS SEAT. 7 by the template 'for every input the law returns true; each argument reads behind the call as it read before'; 0 by the template 'total and deterministic' (their statements: YtcgodelkanifbaaDoorTotals.lean).
  GIVEN WITH THE SEED: the statements are not yours to turn. If you find one false, say at which input.
  Laid BY PROGRAM, IN A SANDBOX (cutbox-rows.mjs): the forced cells as the released guide's own fill.sh prints them over the translation e3234ddc30f130e7… (all of the seat's roots in one cut). By AI agents, Wed Nov 11 2026. No macro, syntax, notation, axiom, sorry.
-/
import Derived.Test.YtcgodelkanifbaaDoorChecked
import GoSem.Claim
import GoSem.ClaimJoined
import GoSem.ClaimMapViews
import Derived.JoinedTies
import Derived.KernelRfl
namespace Go.Proofs.YtcgodelkanifbaaDoor
/- THE CELL 'sum', in the pinned program and in every row, IS THE sha256 OF THE DUMP (.gsa) THAT YtcgodelkanifbaaDoorProg.lean LOADS. Nothing in Lean hashes anything: it is a label: what it is worth is what the hold of that sum in a sandbox is worth. -/
noncomputable def Tryd.pinned : Pinned := { name := "ytcgodelkanifbaadoor", sum := "e3234ddc30f130e7c829103fb8672e37d8dfe3baad53cac06a4a75cc6859d60f", checked := Tryd.checked }
namespace Rows
def none {H : Type} : Left H := { results := [], args := [] }

/- WHAT THE LISTED PACKAGE-LEVEL VARIABLES READ AS WHEN THE CALL BEGINS. Each datum BY PROGRAM (the guide's laid-datum.mjs) off the statement by which the dump's own 'gosem.cut.vars' lays the variable. In a bare row this is a premise. The card (YtcgodelkanifbaaDoorCards.lean) ties it to the program's text. -/
def laid_loop_example_g00036_impl_multipliers {H : Type} : DataW H := .agg [.lit (.int .i64 1103515245), .lit (.int .i64 69069), .lit (.int .i64 1664525), .lit (.int .i64 22695477)]

/-- 'laws.FnSigned': WHATEVER THE INPUT: true; the input reads as it did. -/
def fnSignedSpec : ChangeSpec := { name := "fnSigned", vars := ["loop.example/g00036/impl.multipliers"], fn := fun _ => fun
  | [d, g1] => { results := [.lit (.bool true)], args := [d], vars := [g1] }
  | _ => none }
def fnSignedRow : OpenClaim := { program := "ytcgodelkanifbaadoor", sum := "e3234ddc30f130e7c829103fb8672e37d8dfe3baad53cac06a4a75cc6859d60f", func := "loop.example/g00036/laws.FnSigned", spec := "fnSigned", unfollowed := true, recurses := true, named := ["loop.example/g00036/impl.multipliers"], apart := false, laid := [("loop.example/g00036/impl.multipliers", laid_loop_example_g00036_impl_multipliers)] }
def FnSignedSaid : Prop := fnSignedRow.holds Tryd.pinned (OpenSpec.ofChange fnSignedSpec)

/-- ITS FALSE NEIGHBOUR: 'it returns false'. Refute it at one input. -/
def fnSignedWrong : ChangeSpec := { name := "fnSigned", vars := ["loop.example/g00036/impl.multipliers"], fn := fun _ => fun
  | [d, g1] => { results := [.lit (.bool false)], args := [d], vars := [g1] }
  | _ => none }
def FnSignedWrongFalsely : Prop := fnSignedRow.holds Tryd.pinned (OpenSpec.ofChange fnSignedWrong)

/-- 'laws.FnShared': WHATEVER THE INPUT: true; the input reads as it did. -/
def fnSharedSpec : ChangeSpec := { name := "fnShared", vars := ["loop.example/g00036/impl.multipliers"], fn := fun _ => fun
  | [d1, d2, g1] => { results := [.lit (.bool true)], args := [d1, d2], vars := [g1] }
  | _ => none }
def fnSharedRow : OpenClaim := { program := "ytcgodelkanifbaadoor", sum := "e3234ddc30f130e7c829103fb8672e37d8dfe3baad53cac06a4a75cc6859d60f", func := "loop.example/g00036/laws.FnShared", spec := "fnShared", unfollowed := true, recurses := true, named := ["loop.example/g00036/impl.multipliers"], apart := false, laid := [("loop.example/g00036/impl.multipliers", laid_loop_example_g00036_impl_multipliers)] }
def FnSharedSaid : Prop := fnSharedRow.holds Tryd.pinned (OpenSpec.ofChange fnSharedSpec)

/-- ITS FALSE NEIGHBOUR: 'it returns false'. Refute it at one input. -/
def fnSharedWrong : ChangeSpec := { name := "fnShared", vars := ["loop.example/g00036/impl.multipliers"], fn := fun _ => fun
  | [d1, d2, g1] => { results := [.lit (.bool false)], args := [d1, d2], vars := [g1] }
  | _ => none }
def FnSharedWrongFalsely : Prop := fnSharedRow.holds Tryd.pinned (OpenSpec.ofChange fnSharedWrong)

/-- 'laws.FnExactDigest': WHATEVER THE INPUT: true; the input reads as it did. -/
def fnExactDigestSpec : ChangeSpec := { name := "fnExactDigest", vars := ["loop.example/g00036/impl.multipliers"], fn := fun _ => fun
  | [d, g1] => { results := [.lit (.bool true)], args := [d], vars := [g1] }
  | _ => none }
def fnExactDigestRow : OpenClaim := { program := "ytcgodelkanifbaadoor", sum := "e3234ddc30f130e7c829103fb8672e37d8dfe3baad53cac06a4a75cc6859d60f", func := "loop.example/g00036/laws.FnExactDigest", spec := "fnExactDigest", unfollowed := true, recurses := true, named := ["loop.example/g00036/impl.multipliers"], apart := false, laid := [("loop.example/g00036/impl.multipliers", laid_loop_example_g00036_impl_multipliers)] }
def FnExactDigestSaid : Prop := fnExactDigestRow.holds Tryd.pinned (OpenSpec.ofChange fnExactDigestSpec)

/-- ITS FALSE NEIGHBOUR: 'it returns false'. Refute it at one input. -/
def fnExactDigestWrong : ChangeSpec := { name := "fnExactDigest", vars := ["loop.example/g00036/impl.multipliers"], fn := fun _ => fun
  | [d, g1] => { results := [.lit (.bool false)], args := [d], vars := [g1] }
  | _ => none }
def FnExactDigestWrongFalsely : Prop := fnExactDigestRow.holds Tryd.pinned (OpenSpec.ofChange fnExactDigestWrong)

/-- 'laws.FnExactMac': WHATEVER THE INPUT: true; the input reads as it did. -/
def fnExactMacSpec : ChangeSpec := { name := "fnExactMac", vars := ["loop.example/g00036/impl.multipliers"], fn := fun _ => fun
  | [d1, d2, g1] => { results := [.lit (.bool true)], args := [d1, d2], vars := [g1] }
  | _ => none }
def fnExactMacRow : OpenClaim := { program := "ytcgodelkanifbaadoor", sum := "e3234ddc30f130e7c829103fb8672e37d8dfe3baad53cac06a4a75cc6859d60f", func := "loop.example/g00036/laws.FnExactMac", spec := "fnExactMac", unfollowed := true, recurses := true, named := ["loop.example/g00036/impl.multipliers"], apart := false, laid := [("loop.example/g00036/impl.multipliers", laid_loop_example_g00036_impl_multipliers)] }
def FnExactMacSaid : Prop := fnExactMacRow.holds Tryd.pinned (OpenSpec.ofChange fnExactMacSpec)

/-- ITS FALSE NEIGHBOUR: 'it returns false'. Refute it at one input. -/
def fnExactMacWrong : ChangeSpec := { name := "fnExactMac", vars := ["loop.example/g00036/impl.multipliers"], fn := fun _ => fun
  | [d1, d2, g1] => { results := [.lit (.bool false)], args := [d1, d2], vars := [g1] }
  | _ => none }
def FnExactMacWrongFalsely : Prop := fnExactMacRow.holds Tryd.pinned (OpenSpec.ofChange fnExactMacWrong)

/-- 'laws.FnExactSign': WHATEVER THE INPUT: true; the input reads as it did. -/
def fnExactSignSpec : ChangeSpec := { name := "fnExactSign", vars := ["loop.example/g00036/impl.multipliers"], fn := fun _ => fun
  | [d1, d2, g1] => { results := [.lit (.bool true)], args := [d1, d2], vars := [g1] }
  | _ => none }
def fnExactSignRow : OpenClaim := { program := "ytcgodelkanifbaadoor", sum := "e3234ddc30f130e7c829103fb8672e37d8dfe3baad53cac06a4a75cc6859d60f", func := "loop.example/g00036/laws.FnExactSign", spec := "fnExactSign", unfollowed := true, recurses := true, named := ["loop.example/g00036/impl.multipliers"], apart := false, laid := [("loop.example/g00036/impl.multipliers", laid_loop_example_g00036_impl_multipliers)] }
def FnExactSignSaid : Prop := fnExactSignRow.holds Tryd.pinned (OpenSpec.ofChange fnExactSignSpec)

/-- ITS FALSE NEIGHBOUR: 'it returns false'. Refute it at one input. -/
def fnExactSignWrong : ChangeSpec := { name := "fnExactSign", vars := ["loop.example/g00036/impl.multipliers"], fn := fun _ => fun
  | [d1, d2, g1] => { results := [.lit (.bool false)], args := [d1, d2], vars := [g1] }
  | _ => none }
def FnExactSignWrongFalsely : Prop := fnExactSignRow.holds Tryd.pinned (OpenSpec.ofChange fnExactSignWrong)

/-- 'laws.FnExactVerify': WHATEVER THE INPUT: true; the input reads as it did. -/
def fnExactVerifySpec : ChangeSpec := { name := "fnExactVerify", vars := ["loop.example/g00036/impl.multipliers"], fn := fun _ => fun
  | [d1, d2, d3, g1] => { results := [.lit (.bool true)], args := [d1, d2, d3], vars := [g1] }
  | _ => none }
def fnExactVerifyRow : OpenClaim := { program := "ytcgodelkanifbaadoor", sum := "e3234ddc30f130e7c829103fb8672e37d8dfe3baad53cac06a4a75cc6859d60f", func := "loop.example/g00036/laws.FnExactVerify", spec := "fnExactVerify", unfollowed := true, recurses := true, named := ["loop.example/g00036/impl.multipliers"], apart := false, laid := [("loop.example/g00036/impl.multipliers", laid_loop_example_g00036_impl_multipliers)] }
def FnExactVerifySaid : Prop := fnExactVerifyRow.holds Tryd.pinned (OpenSpec.ofChange fnExactVerifySpec)

/-- ITS FALSE NEIGHBOUR: 'it returns false'. Refute it at one input. -/
def fnExactVerifyWrong : ChangeSpec := { name := "fnExactVerify", vars := ["loop.example/g00036/impl.multipliers"], fn := fun _ => fun
  | [d1, d2, d3, g1] => { results := [.lit (.bool false)], args := [d1, d2, d3], vars := [g1] }
  | _ => none }
def FnExactVerifyWrongFalsely : Prop := fnExactVerifyRow.holds Tryd.pinned (OpenSpec.ofChange fnExactVerifyWrong)

/-- 'laws.FnExactSplit': WHATEVER THE INPUT: true; the input reads as it did. -/
def fnExactSplitSpec : ChangeSpec := { name := "fnExactSplit", vars := ["loop.example/g00036/impl.multipliers"], fn := fun _ => fun
  | [d1, d2, d3, d4, g1] => { results := [.lit (.bool true)], args := [d1, d2, d3, d4], vars := [g1] }
  | _ => none }
def fnExactSplitRow : OpenClaim := { program := "ytcgodelkanifbaadoor", sum := "e3234ddc30f130e7c829103fb8672e37d8dfe3baad53cac06a4a75cc6859d60f", func := "loop.example/g00036/laws.FnExactSplit", spec := "fnExactSplit", unfollowed := true, recurses := true, named := ["loop.example/g00036/impl.multipliers"], apart := false, laid := [("loop.example/g00036/impl.multipliers", laid_loop_example_g00036_impl_multipliers)] }
def FnExactSplitSaid : Prop := fnExactSplitRow.holds Tryd.pinned (OpenSpec.ofChange fnExactSplitSpec)

/-- ITS FALSE NEIGHBOUR: 'it returns false'. Refute it at one input. -/
def fnExactSplitWrong : ChangeSpec := { name := "fnExactSplit", vars := ["loop.example/g00036/impl.multipliers"], fn := fun _ => fun
  | [d1, d2, d3, d4, g1] => { results := [.lit (.bool false)], args := [d1, d2, d3, d4], vars := [g1] }
  | _ => none }
def FnExactSplitWrongFalsely : Prop := fnExactSplitRow.holds Tryd.pinned (OpenSpec.ofChange fnExactSplitWrong)

/- THE SECOND FORM. 'bulk': how many values and letters a reading holds, each counted each time it is reached (what is shared counts as often as it is met; a slice's spare places count too). A statement '..UptoSaid' is the law's where the arguments, and the package variables that the reading takes, are together of bulk at most 1048576: NARROWER than '..Said'. Prove '..Said' where nothing that the law and all that it calls make is longer than what came in: it says more and counts as full. Else prove '..UptoSaid'. A law counts once. -/
mutual
def uptoBulk {H : Type} : DataW H → Nat
  | .lit (.string bytes) => bytes.length + 1
  | .lit _ => 1
  | .nil => 1
  | .ptr d => uptoBulk d + 1
  | .slice elems spare => uptoBulkAll elems + uptoBulkAll spare + 1
  | .agg parts => uptoBulkAll parts + 1
  | .iface _ d => uptoBulk d + 1
  | .map entries => uptoBulkEntries entries + 1
  | .held _ => 1
def uptoBulkAll {H : Type} : List (DataW H) → Nat
  | [] => 0
  | d :: r => uptoBulk d + uptoBulkAll r
def uptoBulkEntries {H : Type} : List (Lit × DataW H) → Nat
  | [] => 0
  | x :: r => uptoBulkEntry x + uptoBulkEntries r
def uptoBulkEntry {H : Type} : Lit × DataW H → Nat
  | (.string bytes, d) => bytes.length + uptoBulk d + 1
  | (_, d) => uptoBulk d + 1
 end
def uptoSmall : (H : Type) → List (DataW H) → Bool := fun _ ds => decide (uptoBulkAll ds ≤ 1048576)
def OpenSpec.upto (s : _root_.Go.ChangeSpec) : _root_.Go.OpenSpec := { _root_.Go.OpenSpec.ofChange s with cond := some uptoSmall }

/-- 'laws.FnSigned', WHERE WHAT IT READS IS OF BULK AT MOST 1048576: true; the input reads as it did. -/
def fnSignedUptoRow : OpenClaim := { program := "ytcgodelkanifbaadoor", sum := "e3234ddc30f130e7c829103fb8672e37d8dfe3baad53cac06a4a75cc6859d60f", func := "loop.example/g00036/laws.FnSigned", spec := "fnSigned", unfollowed := true, recurses := true, named := ["loop.example/g00036/impl.multipliers"], apart := false, laid := [("loop.example/g00036/impl.multipliers", laid_loop_example_g00036_impl_multipliers)], narrowed := true }
def FnSignedUptoSaid : Prop := fnSignedUptoRow.holds Tryd.pinned (OpenSpec.upto fnSignedSpec)

/-- 'laws.FnShared', WHERE WHAT IT READS IS OF BULK AT MOST 1048576: true; the input reads as it did. -/
def fnSharedUptoRow : OpenClaim := { program := "ytcgodelkanifbaadoor", sum := "e3234ddc30f130e7c829103fb8672e37d8dfe3baad53cac06a4a75cc6859d60f", func := "loop.example/g00036/laws.FnShared", spec := "fnShared", unfollowed := true, recurses := true, named := ["loop.example/g00036/impl.multipliers"], apart := false, laid := [("loop.example/g00036/impl.multipliers", laid_loop_example_g00036_impl_multipliers)], narrowed := true }
def FnSharedUptoSaid : Prop := fnSharedUptoRow.holds Tryd.pinned (OpenSpec.upto fnSharedSpec)

/-- 'laws.FnExactDigest', WHERE WHAT IT READS IS OF BULK AT MOST 1048576: true; the input reads as it did. -/
def fnExactDigestUptoRow : OpenClaim := { program := "ytcgodelkanifbaadoor", sum := "e3234ddc30f130e7c829103fb8672e37d8dfe3baad53cac06a4a75cc6859d60f", func := "loop.example/g00036/laws.FnExactDigest", spec := "fnExactDigest", unfollowed := true, recurses := true, named := ["loop.example/g00036/impl.multipliers"], apart := false, laid := [("loop.example/g00036/impl.multipliers", laid_loop_example_g00036_impl_multipliers)], narrowed := true }
def FnExactDigestUptoSaid : Prop := fnExactDigestUptoRow.holds Tryd.pinned (OpenSpec.upto fnExactDigestSpec)

/-- 'laws.FnExactMac', WHERE WHAT IT READS IS OF BULK AT MOST 1048576: true; the input reads as it did. -/
def fnExactMacUptoRow : OpenClaim := { program := "ytcgodelkanifbaadoor", sum := "e3234ddc30f130e7c829103fb8672e37d8dfe3baad53cac06a4a75cc6859d60f", func := "loop.example/g00036/laws.FnExactMac", spec := "fnExactMac", unfollowed := true, recurses := true, named := ["loop.example/g00036/impl.multipliers"], apart := false, laid := [("loop.example/g00036/impl.multipliers", laid_loop_example_g00036_impl_multipliers)], narrowed := true }
def FnExactMacUptoSaid : Prop := fnExactMacUptoRow.holds Tryd.pinned (OpenSpec.upto fnExactMacSpec)

/-- 'laws.FnExactSign', WHERE WHAT IT READS IS OF BULK AT MOST 1048576: true; the input reads as it did. -/
def fnExactSignUptoRow : OpenClaim := { program := "ytcgodelkanifbaadoor", sum := "e3234ddc30f130e7c829103fb8672e37d8dfe3baad53cac06a4a75cc6859d60f", func := "loop.example/g00036/laws.FnExactSign", spec := "fnExactSign", unfollowed := true, recurses := true, named := ["loop.example/g00036/impl.multipliers"], apart := false, laid := [("loop.example/g00036/impl.multipliers", laid_loop_example_g00036_impl_multipliers)], narrowed := true }
def FnExactSignUptoSaid : Prop := fnExactSignUptoRow.holds Tryd.pinned (OpenSpec.upto fnExactSignSpec)

/-- 'laws.FnExactVerify', WHERE WHAT IT READS IS OF BULK AT MOST 1048576: true; the input reads as it did. -/
def fnExactVerifyUptoRow : OpenClaim := { program := "ytcgodelkanifbaadoor", sum := "e3234ddc30f130e7c829103fb8672e37d8dfe3baad53cac06a4a75cc6859d60f", func := "loop.example/g00036/laws.FnExactVerify", spec := "fnExactVerify", unfollowed := true, recurses := true, named := ["loop.example/g00036/impl.multipliers"], apart := false, laid := [("loop.example/g00036/impl.multipliers", laid_loop_example_g00036_impl_multipliers)], narrowed := true }
def FnExactVerifyUptoSaid : Prop := fnExactVerifyUptoRow.holds Tryd.pinned (OpenSpec.upto fnExactVerifySpec)

/-- 'laws.FnExactSplit', WHERE WHAT IT READS IS OF BULK AT MOST 1048576: true; the input reads as it did. -/
def fnExactSplitUptoRow : OpenClaim := { program := "ytcgodelkanifbaadoor", sum := "e3234ddc30f130e7c829103fb8672e37d8dfe3baad53cac06a4a75cc6859d60f", func := "loop.example/g00036/laws.FnExactSplit", spec := "fnExactSplit", unfollowed := true, recurses := true, named := ["loop.example/g00036/impl.multipliers"], apart := false, laid := [("loop.example/g00036/impl.multipliers", laid_loop_example_g00036_impl_multipliers)], narrowed := true }
def FnExactSplitUptoSaid : Prop := fnExactSplitUptoRow.holds Tryd.pinned (OpenSpec.upto fnExactSplitSpec)

end Rows
end Go.Proofs.YtcgodelkanifbaaDoor

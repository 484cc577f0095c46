/-
  No cell of these rows narrows 'for every input' (looked for: loops, veiled, ifaces, maps, wideKeys, modest, calm, conditions, laid).
  DERIVED. THE GIVEN ROWS OF THIS SEAT. 5 by the template 'for every input the law returns true; each argument reads behind the call as it read before'; 0 by the template 'total and deterministic' (their statements: YtcgodelkanifbaaTotals.lean).
  GIVEN WITH THE SEED: the statements are not yours to turn. If you find one false, say at which input.
  Laid BY PROGRAM, IN A SANDBOX (cutbox-rows.mjs): the forced cells as the released guide's own fill.sh prints them over the translation 433ada7dff592279… (all of the seat's roots in one cut). By AI agents, Wed Nov 11 2026. No macro, syntax, notation, axiom, sorry.
-/
import Derived.Test.YtcgodelkanifbaaChecked
import GoSem.Claim
import GoSem.ClaimJoined
import GoSem.ClaimMapViews
import Derived.JoinedTies
import Derived.KernelRfl
namespace Go.Proofs.Ytcgodelkanifbaa
/- THE CELL 'sum', in the pinned program and in every row, IS THE sha256 OF THE DUMP (.gsa) THAT YtcgodelkanifbaaProg.lean LOADS. Nothing in Lean hashes anything: it is a label: what it is worth is what the hold of that sum in a sandbox is worth. -/
noncomputable def Try.pinned : Pinned := { name := "ytcgodelkanifbaa", sum := "433ada7dff5922792804d1b19a70de5094f09460345edf556137e22da5231f7f", checked := Try.checked }
namespace Rows
def none {H : Type} : Left H := { results := [], args := [] }

/-- 'laws.FnArmored': WHATEVER THE INPUT: true; the input reads as it did. -/
def fnArmoredSpec : ChangeSpec := { name := "fnArmored", fn := fun _ => fun
  | [d] => { results := [.lit (.bool true)], args := [d] }
  | _ => none }
def fnArmoredRow : OpenClaim := { program := "ytcgodelkanifbaa", sum := "433ada7dff5922792804d1b19a70de5094f09460345edf556137e22da5231f7f", func := "loop.example/g00036/laws.FnArmored", spec := "fnArmored", inPlace := ["internal/bytealg.IndexByteString"], apart := false }
def FnArmoredSaid : Prop := fnArmoredRow.holds Try.pinned (OpenSpec.ofChange fnArmoredSpec)

/-- ITS FALSE NEIGHBOUR: 'it returns false'. Refute it at one input. -/
def fnArmoredWrong : ChangeSpec := { name := "fnArmored", fn := fun _ => fun
  | [d] => { results := [.lit (.bool false)], args := [d] }
  | _ => none }
def FnArmoredWrongFalsely : Prop := fnArmoredRow.holds Try.pinned (OpenSpec.ofChange fnArmoredWrong)

/-- 'laws.FnExactPublicOf': WHATEVER THE INPUT: true; the input reads as it did. -/
def fnExactPublicOfSpec : ChangeSpec := { name := "fnExactPublicOf", fn := fun _ => fun
  | [d] => { results := [.lit (.bool true)], args := [d] }
  | _ => none }
def fnExactPublicOfRow : OpenClaim := { program := "ytcgodelkanifbaa", sum := "433ada7dff5922792804d1b19a70de5094f09460345edf556137e22da5231f7f", func := "loop.example/g00036/laws.FnExactPublicOf", spec := "fnExactPublicOf", apart := false }
def FnExactPublicOfSaid : Prop := fnExactPublicOfRow.holds Try.pinned (OpenSpec.ofChange fnExactPublicOfSpec)

/-- ITS FALSE NEIGHBOUR: 'it returns false'. Refute it at one input. -/
def fnExactPublicOfWrong : ChangeSpec := { name := "fnExactPublicOf", fn := fun _ => fun
  | [d] => { results := [.lit (.bool false)], args := [d] }
  | _ => none }
def FnExactPublicOfWrongFalsely : Prop := fnExactPublicOfRow.holds Try.pinned (OpenSpec.ofChange fnExactPublicOfWrong)

/-- 'laws.FnExactArmor': WHATEVER THE INPUT: true; the input reads as it did. -/
def fnExactArmorSpec : ChangeSpec := { name := "fnExactArmor", fn := fun _ => fun
  | [d] => { results := [.lit (.bool true)], args := [d] }
  | _ => none }
def fnExactArmorRow : OpenClaim := { program := "ytcgodelkanifbaa", sum := "433ada7dff5922792804d1b19a70de5094f09460345edf556137e22da5231f7f", func := "loop.example/g00036/laws.FnExactArmor", spec := "fnExactArmor", apart := false }
def FnExactArmorSaid : Prop := fnExactArmorRow.holds Try.pinned (OpenSpec.ofChange fnExactArmorSpec)

/-- ITS FALSE NEIGHBOUR: 'it returns false'. Refute it at one input. -/
def fnExactArmorWrong : ChangeSpec := { name := "fnExactArmor", fn := fun _ => fun
  | [d] => { results := [.lit (.bool false)], args := [d] }
  | _ => none }
def FnExactArmorWrongFalsely : Prop := fnExactArmorRow.holds Try.pinned (OpenSpec.ofChange fnExactArmorWrong)

/-- 'laws.FnExactUnarmor': WHATEVER THE INPUT: true; the input reads as it did. -/
def fnExactUnarmorSpec : ChangeSpec := { name := "fnExactUnarmor", fn := fun _ => fun
  | [d] => { results := [.lit (.bool true)], args := [d] }
  | _ => none }
def fnExactUnarmorRow : OpenClaim := { program := "ytcgodelkanifbaa", sum := "433ada7dff5922792804d1b19a70de5094f09460345edf556137e22da5231f7f", func := "loop.example/g00036/laws.FnExactUnarmor", spec := "fnExactUnarmor", inPlace := ["internal/bytealg.IndexByteString"], apart := false }
def FnExactUnarmorSaid : Prop := fnExactUnarmorRow.holds Try.pinned (OpenSpec.ofChange fnExactUnarmorSpec)

/-- ITS FALSE NEIGHBOUR: 'it returns false'. Refute it at one input. -/
def fnExactUnarmorWrong : ChangeSpec := { name := "fnExactUnarmor", fn := fun _ => fun
  | [d] => { results := [.lit (.bool false)], args := [d] }
  | _ => none }
def FnExactUnarmorWrongFalsely : Prop := fnExactUnarmorRow.holds Try.pinned (OpenSpec.ofChange fnExactUnarmorWrong)

/-- 'laws.FnExactJoin': WHATEVER THE INPUT: true; the input reads as it did. -/
def fnExactJoinSpec : ChangeSpec := { name := "fnExactJoin", fn := fun _ => fun
  | [d] => { results := [.lit (.bool true)], args := [d] }
  | _ => none }
def fnExactJoinRow : OpenClaim := { program := "ytcgodelkanifbaa", sum := "433ada7dff5922792804d1b19a70de5094f09460345edf556137e22da5231f7f", func := "loop.example/g00036/laws.FnExactJoin", spec := "fnExactJoin", unfollowed := true, recurses := true, apart := false }
def FnExactJoinSaid : Prop := fnExactJoinRow.holds Try.pinned (OpenSpec.ofChange fnExactJoinSpec)

/-- ITS FALSE NEIGHBOUR: 'it returns false'. Refute it at one input. -/
def fnExactJoinWrong : ChangeSpec := { name := "fnExactJoin", fn := fun _ => fun
  | [d] => { results := [.lit (.bool false)], args := [d] }
  | _ => none }
def FnExactJoinWrongFalsely : Prop := fnExactJoinRow.holds Try.pinned (OpenSpec.ofChange fnExactJoinWrong)

/- THE SECOND FORM. 'bulk': how many values and letters a reading holds, each counted each time it is reached (what is shared counts as often as it is met; a slice's spare places count too). A statement '..UptoSaid' is the law's where the arguments, and the package variables that the reading takes, are together of bulk at most 1048576: NARROWER than '..Said'. Prove '..Said' where nothing that the law and all that it calls make is longer than what came in: it says more and counts as full. Else prove '..UptoSaid'. A law counts once. -/
mutual
def uptoBulk {H : Type} : DataW H → Nat
  | .lit (.string bytes) => bytes.length + 1
  | .lit _ => 1
  | .nil => 1
  | .ptr d => uptoBulk d + 1
  | .slice elems spare => uptoBulkAll elems + uptoBulkAll spare + 1
  | .agg parts => uptoBulkAll parts + 1
  | .iface _ d => uptoBulk d + 1
  | .map entries => uptoBulkEntries entries + 1
  | .held _ => 1
def uptoBulkAll {H : Type} : List (DataW H) → Nat
  | [] => 0
  | d :: r => uptoBulk d + uptoBulkAll r
def uptoBulkEntries {H : Type} : List (Lit × DataW H) → Nat
  | [] => 0
  | x :: r => uptoBulkEntry x + uptoBulkEntries r
def uptoBulkEntry {H : Type} : Lit × DataW H → Nat
  | (.string bytes, d) => bytes.length + uptoBulk d + 1
  | (_, d) => uptoBulk d + 1
 end
def uptoSmall : (H : Type) → List (DataW H) → Bool := fun _ ds => decide (uptoBulkAll ds ≤ 1048576)
def OpenSpec.upto (s : _root_.Go.ChangeSpec) : _root_.Go.OpenSpec := { _root_.Go.OpenSpec.ofChange s with cond := some uptoSmall }

/-- 'laws.FnArmored', WHERE WHAT IT READS IS OF BULK AT MOST 1048576: true; the input reads as it did. -/
def fnArmoredUptoRow : OpenClaim := { program := "ytcgodelkanifbaa", sum := "433ada7dff5922792804d1b19a70de5094f09460345edf556137e22da5231f7f", func := "loop.example/g00036/laws.FnArmored", spec := "fnArmored", inPlace := ["internal/bytealg.IndexByteString"], apart := false, narrowed := true }
def FnArmoredUptoSaid : Prop := fnArmoredUptoRow.holds Try.pinned (OpenSpec.upto fnArmoredSpec)

/-- 'laws.FnExactPublicOf', WHERE WHAT IT READS IS OF BULK AT MOST 1048576: true; the input reads as it did. -/
def fnExactPublicOfUptoRow : OpenClaim := { program := "ytcgodelkanifbaa", sum := "433ada7dff5922792804d1b19a70de5094f09460345edf556137e22da5231f7f", func := "loop.example/g00036/laws.FnExactPublicOf", spec := "fnExactPublicOf", apart := false, narrowed := true }
def FnExactPublicOfUptoSaid : Prop := fnExactPublicOfUptoRow.holds Try.pinned (OpenSpec.upto fnExactPublicOfSpec)

/-- 'laws.FnExactArmor', WHERE WHAT IT READS IS OF BULK AT MOST 1048576: true; the input reads as it did. -/
def fnExactArmorUptoRow : OpenClaim := { program := "ytcgodelkanifbaa", sum := "433ada7dff5922792804d1b19a70de5094f09460345edf556137e22da5231f7f", func := "loop.example/g00036/laws.FnExactArmor", spec := "fnExactArmor", apart := false, narrowed := true }
def FnExactArmorUptoSaid : Prop := fnExactArmorUptoRow.holds Try.pinned (OpenSpec.upto fnExactArmorSpec)

/-- 'laws.FnExactUnarmor', WHERE WHAT IT READS IS OF BULK AT MOST 1048576: true; the input reads as it did. -/
def fnExactUnarmorUptoRow : OpenClaim := { program := "ytcgodelkanifbaa", sum := "433ada7dff5922792804d1b19a70de5094f09460345edf556137e22da5231f7f", func := "loop.example/g00036/laws.FnExactUnarmor", spec := "fnExactUnarmor", inPlace := ["internal/bytealg.IndexByteString"], apart := false, narrowed := true }
def FnExactUnarmorUptoSaid : Prop := fnExactUnarmorUptoRow.holds Try.pinned (OpenSpec.upto fnExactUnarmorSpec)

/-- 'laws.FnExactJoin', WHERE WHAT IT READS IS OF BULK AT MOST 1048576: true; the input reads as it did. -/
def fnExactJoinUptoRow : OpenClaim := { program := "ytcgodelkanifbaa", sum := "433ada7dff5922792804d1b19a70de5094f09460345edf556137e22da5231f7f", func := "loop.example/g00036/laws.FnExactJoin", spec := "fnExactJoin", unfollowed := true, recurses := true, apart := false, narrowed := true }
def FnExactJoinUptoSaid : Prop := fnExactJoinUptoRow.holds Try.pinned (OpenSpec.upto fnExactJoinSpec)

end Rows
end Go.Proofs.Ytcgodelkanifbaa

/-
  No cell of these rows narrows 'for every input' (looked for: loops, veiled, ifaces, maps, wideKeys, modest, calm, conditions, laid).
  DERIVED. THE GIVEN ROWS OF THIS SEAT. 6 by the template 'for every input the law returns true; each argument reads behind the call as it read before'; 0 by the template 'total and deterministic' (their statements: YthmjefmljcdpcaaTotals.lean).
  GIVEN WITH THE SEED: the statements are not yours to turn. If you find one false, say at which input.
  Laid BY PROGRAM, IN A SANDBOX (cutbox-rows.mjs): the forced cells as the released guide's own fill.sh prints them over the translation 07e1b8b2df5085ef… (all of the seat's roots in one cut). By AI agents, Wed Nov 11 2026. No macro, syntax, notation, axiom, sorry.
-/
import Derived.Test.YthmjefmljcdpcaaChecked
import GoSem.Claim
import GoSem.ClaimJoined
import GoSem.ClaimMapViews
import Derived.JoinedTies
import Derived.KernelRfl
namespace Go.Proofs.Ythmjefmljcdpcaa
/- THE CELL 'sum', in the pinned program and in every row, IS THE sha256 OF THE DUMP (.gsa) THAT YthmjefmljcdpcaaProg.lean LOADS. Nothing in Lean hashes anything: it is a label: what it is worth is what the hold of that sum in a sandbox is worth. -/
noncomputable def Try.pinned : Pinned := { name := "ythmjefmljcdpcaa", sum := "07e1b8b2df5085ef914948f2db6089f4fd98a4dec3f23a5e6e5177d005644d06", checked := Try.checked }
namespace Rows
def none {H : Type} : Left H := { results := [], args := [] }

/-- 'laws.FnExactGoodDirName': WHATEVER THE INPUT: true; the input reads as it did. -/
def fnExactGoodDirNameSpec : ChangeSpec := { name := "fnExactGoodDirName", fn := fun _ => fun
  | [d] => { results := [.lit (.bool true)], args := [d] }
  | _ => none }
def fnExactGoodDirNameRow : OpenClaim := { program := "ythmjefmljcdpcaa", sum := "07e1b8b2df5085ef914948f2db6089f4fd98a4dec3f23a5e6e5177d005644d06", func := "loop.example/g00036/laws.FnExactGoodDirName", spec := "fnExactGoodDirName", apart := false }
def FnExactGoodDirNameSaid : Prop := fnExactGoodDirNameRow.holds Try.pinned (OpenSpec.ofChange fnExactGoodDirNameSpec)

/-- ITS FALSE NEIGHBOUR: 'it returns false'. Refute it at one input. -/
def fnExactGoodDirNameWrong : ChangeSpec := { name := "fnExactGoodDirName", fn := fun _ => fun
  | [d] => { results := [.lit (.bool false)], args := [d] }
  | _ => none }
def FnExactGoodDirNameWrongFalsely : Prop := fnExactGoodDirNameRow.holds Try.pinned (OpenSpec.ofChange fnExactGoodDirNameWrong)

/-- 'laws.FnExactNameText': WHATEVER THE INPUT: true; the input reads as it did. -/
def fnExactNameTextSpec : ChangeSpec := { name := "fnExactNameText", fn := fun _ => fun
  | [d] => { results := [.lit (.bool true)], args := [d] }
  | _ => none }
def fnExactNameTextRow : OpenClaim := { program := "ythmjefmljcdpcaa", sum := "07e1b8b2df5085ef914948f2db6089f4fd98a4dec3f23a5e6e5177d005644d06", func := "loop.example/g00036/laws.FnExactNameText", spec := "fnExactNameText", inPlace := ["internal/bytealg.IndexByteString", "internal/abi.NoEscape", "internal/bytealg.MakeNoZero"], apart := false }
def FnExactNameTextSaid : Prop := fnExactNameTextRow.holds Try.pinned (OpenSpec.ofChange fnExactNameTextSpec)

/-- ITS FALSE NEIGHBOUR: 'it returns false'. Refute it at one input. -/
def fnExactNameTextWrong : ChangeSpec := { name := "fnExactNameText", fn := fun _ => fun
  | [d] => { results := [.lit (.bool false)], args := [d] }
  | _ => none }
def FnExactNameTextWrongFalsely : Prop := fnExactNameTextRow.holds Try.pinned (OpenSpec.ofChange fnExactNameTextWrong)

/-- 'laws.FnExactReadName': WHATEVER THE INPUT: true; the input reads as it did. -/
def fnExactReadNameSpec : ChangeSpec := { name := "fnExactReadName", fn := fun _ => fun
  | [d] => { results := [.lit (.bool true)], args := [d] }
  | _ => none }
def fnExactReadNameRow : OpenClaim := { program := "ythmjefmljcdpcaa", sum := "07e1b8b2df5085ef914948f2db6089f4fd98a4dec3f23a5e6e5177d005644d06", func := "loop.example/g00036/laws.FnExactReadName", spec := "fnExactReadName", inPlace := ["internal/bytealg.IndexByteString", "internal/bytealg.IndexString", "internal/abi.NoEscape", "internal/bytealg.MakeNoZero"], named := ["internal/bytealg.MaxLen"], apart := false }
def FnExactReadNameSaid : Prop := fnExactReadNameRow.holds Try.pinned (OpenSpec.ofChange fnExactReadNameSpec)

/-- ITS FALSE NEIGHBOUR: 'it returns false'. Refute it at one input. -/
def fnExactReadNameWrong : ChangeSpec := { name := "fnExactReadName", fn := fun _ => fun
  | [d] => { results := [.lit (.bool false)], args := [d] }
  | _ => none }
def FnExactReadNameWrongFalsely : Prop := fnExactReadNameRow.holds Try.pinned (OpenSpec.ofChange fnExactReadNameWrong)

/-- 'laws.FnExactUnder': WHATEVER THE INPUT: true; the input reads as it did. -/
def fnExactUnderSpec : ChangeSpec := { name := "fnExactUnder", fn := fun _ => fun
  | [d1, d2] => { results := [.lit (.bool true)], args := [d1, d2] }
  | _ => none }
def fnExactUnderRow : OpenClaim := { program := "ythmjefmljcdpcaa", sum := "07e1b8b2df5085ef914948f2db6089f4fd98a4dec3f23a5e6e5177d005644d06", func := "loop.example/g00036/laws.FnExactUnder", spec := "fnExactUnder", apart := false }
def FnExactUnderSaid : Prop := fnExactUnderRow.holds Try.pinned (OpenSpec.ofChange fnExactUnderSpec)

/-- ITS FALSE NEIGHBOUR: 'it returns false'. Refute it at one input. -/
def fnExactUnderWrong : ChangeSpec := { name := "fnExactUnder", fn := fun _ => fun
  | [d1, d2] => { results := [.lit (.bool false)], args := [d1, d2] }
  | _ => none }
def FnExactUnderWrongFalsely : Prop := fnExactUnderRow.holds Try.pinned (OpenSpec.ofChange fnExactUnderWrong)

/-- 'laws.FnExactGoodDirSchema': WHATEVER THE INPUT: true; the input reads as it did. -/
def fnExactGoodDirSchemaSpec : ChangeSpec := { name := "fnExactGoodDirSchema", fn := fun _ => fun
  | [d] => { results := [.lit (.bool true)], args := [d] }
  | _ => none }
def fnExactGoodDirSchemaRow : OpenClaim := { program := "ythmjefmljcdpcaa", sum := "07e1b8b2df5085ef914948f2db6089f4fd98a4dec3f23a5e6e5177d005644d06", func := "loop.example/g00036/laws.FnExactGoodDirSchema", spec := "fnExactGoodDirSchema", inPlace := ["internal/bytealg.abigen_runtime_cmpstring"], unfollowed := true, recurses := true, apart := false }
def FnExactGoodDirSchemaSaid : Prop := fnExactGoodDirSchemaRow.holds Try.pinned (OpenSpec.ofChange fnExactGoodDirSchemaSpec)

/-- ITS FALSE NEIGHBOUR: 'it returns false'. Refute it at one input. -/
def fnExactGoodDirSchemaWrong : ChangeSpec := { name := "fnExactGoodDirSchema", fn := fun _ => fun
  | [d] => { results := [.lit (.bool false)], args := [d] }
  | _ => none }
def FnExactGoodDirSchemaWrongFalsely : Prop := fnExactGoodDirSchemaRow.holds Try.pinned (OpenSpec.ofChange fnExactGoodDirSchemaWrong)

/-- 'laws.FnExactGoodEntry': WHATEVER THE INPUT: true; the input reads as it did. -/
def fnExactGoodEntrySpec : ChangeSpec := { name := "fnExactGoodEntry", fn := fun _ => fun
  | [d] => { results := [.lit (.bool true)], args := [d] }
  | _ => none }
def fnExactGoodEntryRow : OpenClaim := { program := "ythmjefmljcdpcaa", sum := "07e1b8b2df5085ef914948f2db6089f4fd98a4dec3f23a5e6e5177d005644d06", func := "loop.example/g00036/laws.FnExactGoodEntry", spec := "fnExactGoodEntry", inPlace := ["internal/bytealg.abigen_runtime_cmpstring"], unfollowed := true, recurses := true, apart := false }
def FnExactGoodEntrySaid : Prop := fnExactGoodEntryRow.holds Try.pinned (OpenSpec.ofChange fnExactGoodEntrySpec)

/-- ITS FALSE NEIGHBOUR: 'it returns false'. Refute it at one input. -/
def fnExactGoodEntryWrong : ChangeSpec := { name := "fnExactGoodEntry", fn := fun _ => fun
  | [d] => { results := [.lit (.bool false)], args := [d] }
  | _ => none }
def FnExactGoodEntryWrongFalsely : Prop := fnExactGoodEntryRow.holds Try.pinned (OpenSpec.ofChange fnExactGoodEntryWrong)

/- THE SECOND FORM. 'bulk': how many values and letters a reading holds, each counted each time it is reached (what is shared counts as often as it is met; a slice's spare places count too). A statement '..UptoSaid' is the law's where the arguments, and the package variables that the reading takes, are together of bulk at most 1048576: NARROWER than '..Said'. Prove '..Said' where nothing that the law and all that it calls make is longer than what came in: it says more and counts as full. Else prove '..UptoSaid'. A law counts once. -/
mutual
def uptoBulk {H : Type} : DataW H → Nat
  | .lit (.string bytes) => bytes.length + 1
  | .lit _ => 1
  | .nil => 1
  | .ptr d => uptoBulk d + 1
  | .slice elems spare => uptoBulkAll elems + uptoBulkAll spare + 1
  | .agg parts => uptoBulkAll parts + 1
  | .iface _ d => uptoBulk d + 1
  | .map entries => uptoBulkEntries entries + 1
  | .held _ => 1
def uptoBulkAll {H : Type} : List (DataW H) → Nat
  | [] => 0
  | d :: r => uptoBulk d + uptoBulkAll r
def uptoBulkEntries {H : Type} : List (Lit × DataW H) → Nat
  | [] => 0
  | x :: r => uptoBulkEntry x + uptoBulkEntries r
def uptoBulkEntry {H : Type} : Lit × DataW H → Nat
  | (.string bytes, d) => bytes.length + uptoBulk d + 1
  | (_, d) => uptoBulk d + 1
 end
def uptoSmall : (H : Type) → List (DataW H) → Bool := fun _ ds => decide (uptoBulkAll ds ≤ 1048576)
def OpenSpec.upto (s : _root_.Go.ChangeSpec) : _root_.Go.OpenSpec := { _root_.Go.OpenSpec.ofChange s with cond := some uptoSmall }

/-- 'laws.FnExactGoodDirName', WHERE WHAT IT READS IS OF BULK AT MOST 1048576: true; the input reads as it did. -/
def fnExactGoodDirNameUptoRow : OpenClaim := { program := "ythmjefmljcdpcaa", sum := "07e1b8b2df5085ef914948f2db6089f4fd98a4dec3f23a5e6e5177d005644d06", func := "loop.example/g00036/laws.FnExactGoodDirName", spec := "fnExactGoodDirName", apart := false, narrowed := true }
def FnExactGoodDirNameUptoSaid : Prop := fnExactGoodDirNameUptoRow.holds Try.pinned (OpenSpec.upto fnExactGoodDirNameSpec)

/-- 'laws.FnExactNameText', WHERE WHAT IT READS IS OF BULK AT MOST 1048576: true; the input reads as it did. -/
def fnExactNameTextUptoRow : OpenClaim := { program := "ythmjefmljcdpcaa", sum := "07e1b8b2df5085ef914948f2db6089f4fd98a4dec3f23a5e6e5177d005644d06", func := "loop.example/g00036/laws.FnExactNameText", spec := "fnExactNameText", inPlace := ["internal/bytealg.IndexByteString", "internal/abi.NoEscape", "internal/bytealg.MakeNoZero"], apart := false, narrowed := true }
def FnExactNameTextUptoSaid : Prop := fnExactNameTextUptoRow.holds Try.pinned (OpenSpec.upto fnExactNameTextSpec)

/-- 'laws.FnExactReadName', WHERE WHAT IT READS IS OF BULK AT MOST 1048576: true; the input reads as it did. -/
def fnExactReadNameUptoRow : OpenClaim := { program := "ythmjefmljcdpcaa", sum := "07e1b8b2df5085ef914948f2db6089f4fd98a4dec3f23a5e6e5177d005644d06", func := "loop.example/g00036/laws.FnExactReadName", spec := "fnExactReadName", inPlace := ["internal/bytealg.IndexByteString", "internal/bytealg.IndexString", "internal/abi.NoEscape", "internal/bytealg.MakeNoZero"], named := ["internal/bytealg.MaxLen"], apart := false, narrowed := true }
def FnExactReadNameUptoSaid : Prop := fnExactReadNameUptoRow.holds Try.pinned (OpenSpec.upto fnExactReadNameSpec)

/-- 'laws.FnExactUnder', WHERE WHAT IT READS IS OF BULK AT MOST 1048576: true; the input reads as it did. -/
def fnExactUnderUptoRow : OpenClaim := { program := "ythmjefmljcdpcaa", sum := "07e1b8b2df5085ef914948f2db6089f4fd98a4dec3f23a5e6e5177d005644d06", func := "loop.example/g00036/laws.FnExactUnder", spec := "fnExactUnder", apart := false, narrowed := true }
def FnExactUnderUptoSaid : Prop := fnExactUnderUptoRow.holds Try.pinned (OpenSpec.upto fnExactUnderSpec)

/-- 'laws.FnExactGoodDirSchema', WHERE WHAT IT READS IS OF BULK AT MOST 1048576: true; the input reads as it did. -/
def fnExactGoodDirSchemaUptoRow : OpenClaim := { program := "ythmjefmljcdpcaa", sum := "07e1b8b2df5085ef914948f2db6089f4fd98a4dec3f23a5e6e5177d005644d06", func := "loop.example/g00036/laws.FnExactGoodDirSchema", spec := "fnExactGoodDirSchema", inPlace := ["internal/bytealg.abigen_runtime_cmpstring"], unfollowed := true, recurses := true, apart := false, narrowed := true }
def FnExactGoodDirSchemaUptoSaid : Prop := fnExactGoodDirSchemaUptoRow.holds Try.pinned (OpenSpec.upto fnExactGoodDirSchemaSpec)

/-- 'laws.FnExactGoodEntry', WHERE WHAT IT READS IS OF BULK AT MOST 1048576: true; the input reads as it did. -/
def fnExactGoodEntryUptoRow : OpenClaim := { program := "ythmjefmljcdpcaa", sum := "07e1b8b2df5085ef914948f2db6089f4fd98a4dec3f23a5e6e5177d005644d06", func := "loop.example/g00036/laws.FnExactGoodEntry", spec := "fnExactGoodEntry", inPlace := ["internal/bytealg.abigen_runtime_cmpstring"], unfollowed := true, recurses := true, apart := false, narrowed := true }
def FnExactGoodEntryUptoSaid : Prop := fnExactGoodEntryUptoRow.holds Try.pinned (OpenSpec.upto fnExactGoodEntrySpec)

end Rows
end Go.Proofs.Ythmjefmljcdpcaa

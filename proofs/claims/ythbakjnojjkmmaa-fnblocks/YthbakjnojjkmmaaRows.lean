/-
  No cell of these rows narrows 'for every input' (looked for: loops, veiled, ifaces, maps, wideKeys, modest, calm, conditions, laid).
  DERIVED. THE GIVEN ROWS OF THIS SEAT. 8 by the template 'for every input the law returns true; each argument reads behind the call as it read before'; 0 by the template 'total and deterministic' (their statements: YthbakjnojjkmmaaTotals.lean).
  GIVEN WITH THE SEED: the statements are not yours to turn. If you find one false, say at which input.
  Laid BY PROGRAM, IN A SANDBOX (cutbox-rows.mjs): the forced cells as the released guide's own fill.sh prints them over the translation a54da503676bcb78… (all of the seat's roots in one cut). By AI agents, Wed Nov 11 2026. No macro, syntax, notation, axiom, sorry.
-/
import Derived.Test.YthbakjnojjkmmaaChecked
import GoSem.Claim
import GoSem.ClaimJoined
import GoSem.ClaimMapViews
import Derived.JoinedTies
import Derived.KernelRfl
namespace Go.Proofs.Ythbakjnojjkmmaa
/- THE CELL 'sum', in the pinned program and in every row, IS THE sha256 OF THE DUMP (.gsa) THAT YthbakjnojjkmmaaProg.lean LOADS. Nothing in Lean hashes anything: it is a label: what it is worth is what the hold of that sum in a sandbox is worth. -/
noncomputable def Try.pinned : Pinned := { name := "ythbakjnojjkmmaa", sum := "a54da503676bcb78ed01a0454b182af273d60f212206eea45c069765f16a582c", checked := Try.checked }
namespace Rows
def none {H : Type} : Left H := { results := [], args := [] }

/-- 'laws.FnBlocks': WHATEVER THE INPUT: true; the input reads as it did. -/
def fnBlocksSpec : ChangeSpec := { name := "fnBlocks", fn := fun _ => fun
  | [d1, d2] => { results := [.lit (.bool true)], args := [d1, d2] }
  | _ => none }
def fnBlocksRow : OpenClaim := { program := "ythbakjnojjkmmaa", sum := "a54da503676bcb78ed01a0454b182af273d60f212206eea45c069765f16a582c", func := "loop.example/g00036/laws.FnBlocks", spec := "fnBlocks", apart := false }
def FnBlocksSaid : Prop := fnBlocksRow.holds Try.pinned (OpenSpec.ofChange fnBlocksSpec)

/-- ITS FALSE NEIGHBOUR: 'it returns false'. Refute it at one input. -/
def fnBlocksWrong : ChangeSpec := { name := "fnBlocks", fn := fun _ => fun
  | [d1, d2] => { results := [.lit (.bool false)], args := [d1, d2] }
  | _ => none }
def FnBlocksWrongFalsely : Prop := fnBlocksRow.holds Try.pinned (OpenSpec.ofChange fnBlocksWrong)

/-- 'laws.FnLike': WHATEVER THE INPUT: true; the input reads as it did. -/
def fnLikeSpec : ChangeSpec := { name := "fnLike", fn := fun _ => fun
  | [d] => { results := [.lit (.bool true)], args := [d] }
  | _ => none }
def fnLikeRow : OpenClaim := { program := "ythbakjnojjkmmaa", sum := "a54da503676bcb78ed01a0454b182af273d60f212206eea45c069765f16a582c", func := "loop.example/g00036/laws.FnLike", spec := "fnLike", apart := false }
def FnLikeSaid : Prop := fnLikeRow.holds Try.pinned (OpenSpec.ofChange fnLikeSpec)

/-- ITS FALSE NEIGHBOUR: 'it returns false'. Refute it at one input. -/
def fnLikeWrong : ChangeSpec := { name := "fnLike", fn := fun _ => fun
  | [d] => { results := [.lit (.bool false)], args := [d] }
  | _ => none }
def FnLikeWrongFalsely : Prop := fnLikeRow.holds Try.pinned (OpenSpec.ofChange fnLikeWrong)

/-- 'laws.FnExactGoodName': WHATEVER THE INPUT: true; the input reads as it did. -/
def fnExactGoodNameSpec : ChangeSpec := { name := "fnExactGoodName", fn := fun _ => fun
  | [d] => { results := [.lit (.bool true)], args := [d] }
  | _ => none }
def fnExactGoodNameRow : OpenClaim := { program := "ythbakjnojjkmmaa", sum := "a54da503676bcb78ed01a0454b182af273d60f212206eea45c069765f16a582c", func := "loop.example/g00036/laws.FnExactGoodName", spec := "fnExactGoodName", apart := false }
def FnExactGoodNameSaid : Prop := fnExactGoodNameRow.holds Try.pinned (OpenSpec.ofChange fnExactGoodNameSpec)

/-- ITS FALSE NEIGHBOUR: 'it returns false'. Refute it at one input. -/
def fnExactGoodNameWrong : ChangeSpec := { name := "fnExactGoodName", fn := fun _ => fun
  | [d] => { results := [.lit (.bool false)], args := [d] }
  | _ => none }
def FnExactGoodNameWrongFalsely : Prop := fnExactGoodNameRow.holds Try.pinned (OpenSpec.ofChange fnExactGoodNameWrong)

/-- 'laws.FnExactGoodAtom': WHATEVER THE INPUT: true; the input reads as it did. -/
def fnExactGoodAtomSpec : ChangeSpec := { name := "fnExactGoodAtom", fn := fun _ => fun
  | [d] => { results := [.lit (.bool true)], args := [d] }
  | _ => none }
def fnExactGoodAtomRow : OpenClaim := { program := "ythbakjnojjkmmaa", sum := "a54da503676bcb78ed01a0454b182af273d60f212206eea45c069765f16a582c", func := "loop.example/g00036/laws.FnExactGoodAtom", spec := "fnExactGoodAtom", apart := false }
def FnExactGoodAtomSaid : Prop := fnExactGoodAtomRow.holds Try.pinned (OpenSpec.ofChange fnExactGoodAtomSpec)

/-- ITS FALSE NEIGHBOUR: 'it returns false'. Refute it at one input. -/
def fnExactGoodAtomWrong : ChangeSpec := { name := "fnExactGoodAtom", fn := fun _ => fun
  | [d] => { results := [.lit (.bool false)], args := [d] }
  | _ => none }
def FnExactGoodAtomWrongFalsely : Prop := fnExactGoodAtomRow.holds Try.pinned (OpenSpec.ofChange fnExactGoodAtomWrong)

/-- 'laws.FnExactCompareAtoms': WHATEVER THE INPUT: true; the input reads as it did. -/
def fnExactCompareAtomsSpec : ChangeSpec := { name := "fnExactCompareAtoms", fn := fun _ => fun
  | [d1, d2] => { results := [.lit (.bool true)], args := [d1, d2] }
  | _ => none }
def fnExactCompareAtomsRow : OpenClaim := { program := "ythbakjnojjkmmaa", sum := "a54da503676bcb78ed01a0454b182af273d60f212206eea45c069765f16a582c", func := "loop.example/g00036/laws.FnExactCompareAtoms", spec := "fnExactCompareAtoms", apart := false }
def FnExactCompareAtomsSaid : Prop := fnExactCompareAtomsRow.holds Try.pinned (OpenSpec.ofChange fnExactCompareAtomsSpec)

/-- ITS FALSE NEIGHBOUR: 'it returns false'. Refute it at one input. -/
def fnExactCompareAtomsWrong : ChangeSpec := { name := "fnExactCompareAtoms", fn := fun _ => fun
  | [d1, d2] => { results := [.lit (.bool false)], args := [d1, d2] }
  | _ => none }
def FnExactCompareAtomsWrongFalsely : Prop := fnExactCompareAtomsRow.holds Try.pinned (OpenSpec.ofChange fnExactCompareAtomsWrong)

/-- 'laws.FnExactGoodValue': WHATEVER THE INPUT: true; the input reads as it did. -/
def fnExactGoodValueSpec : ChangeSpec := { name := "fnExactGoodValue", fn := fun _ => fun
  | [d] => { results := [.lit (.bool true)], args := [d] }
  | _ => none }
def fnExactGoodValueRow : OpenClaim := { program := "ythbakjnojjkmmaa", sum := "a54da503676bcb78ed01a0454b182af273d60f212206eea45c069765f16a582c", func := "loop.example/g00036/laws.FnExactGoodValue", spec := "fnExactGoodValue", inPlace := ["internal/bytealg.abigen_runtime_cmpstring"], unfollowed := true, recurses := true, apart := false }
def FnExactGoodValueSaid : Prop := fnExactGoodValueRow.holds Try.pinned (OpenSpec.ofChange fnExactGoodValueSpec)

/-- ITS FALSE NEIGHBOUR: 'it returns false'. Refute it at one input. -/
def fnExactGoodValueWrong : ChangeSpec := { name := "fnExactGoodValue", fn := fun _ => fun
  | [d] => { results := [.lit (.bool false)], args := [d] }
  | _ => none }
def FnExactGoodValueWrongFalsely : Prop := fnExactGoodValueRow.holds Try.pinned (OpenSpec.ofChange fnExactGoodValueWrong)

/-- 'laws.FnExactAddrIn': WHATEVER THE INPUT: true; the input reads as it did. -/
def fnExactAddrInSpec : ChangeSpec := { name := "fnExactAddrIn", fn := fun _ => fun
  | [d1, d2] => { results := [.lit (.bool true)], args := [d1, d2] }
  | _ => none }
def fnExactAddrInRow : OpenClaim := { program := "ythbakjnojjkmmaa", sum := "a54da503676bcb78ed01a0454b182af273d60f212206eea45c069765f16a582c", func := "loop.example/g00036/laws.FnExactAddrIn", spec := "fnExactAddrIn", apart := false }
def FnExactAddrInSaid : Prop := fnExactAddrInRow.holds Try.pinned (OpenSpec.ofChange fnExactAddrInSpec)

/-- ITS FALSE NEIGHBOUR: 'it returns false'. Refute it at one input. -/
def fnExactAddrInWrong : ChangeSpec := { name := "fnExactAddrIn", fn := fun _ => fun
  | [d1, d2] => { results := [.lit (.bool false)], args := [d1, d2] }
  | _ => none }
def FnExactAddrInWrongFalsely : Prop := fnExactAddrInRow.holds Try.pinned (OpenSpec.ofChange fnExactAddrInWrong)

/-- 'laws.FnExactLike': WHATEVER THE INPUT: true; the input reads as it did. -/
def fnExactLikeSpec : ChangeSpec := { name := "fnExactLike", fn := fun _ => fun
  | [d1, d2] => { results := [.lit (.bool true)], args := [d1, d2] }
  | _ => none }
def fnExactLikeRow : OpenClaim := { program := "ythbakjnojjkmmaa", sum := "a54da503676bcb78ed01a0454b182af273d60f212206eea45c069765f16a582c", func := "loop.example/g00036/laws.FnExactLike", spec := "fnExactLike", apart := false }
def FnExactLikeSaid : Prop := fnExactLikeRow.holds Try.pinned (OpenSpec.ofChange fnExactLikeSpec)

/-- ITS FALSE NEIGHBOUR: 'it returns false'. Refute it at one input. -/
def fnExactLikeWrong : ChangeSpec := { name := "fnExactLike", fn := fun _ => fun
  | [d1, d2] => { results := [.lit (.bool false)], args := [d1, d2] }
  | _ => none }
def FnExactLikeWrongFalsely : Prop := fnExactLikeRow.holds Try.pinned (OpenSpec.ofChange fnExactLikeWrong)

/- THE SECOND FORM. 'bulk': how many values and letters a reading holds, each counted each time it is reached (what is shared counts as often as it is met; a slice's spare places count too). A statement '..UptoSaid' is the law's where the arguments, and the package variables that the reading takes, are together of bulk at most 1048576: NARROWER than '..Said'. Prove '..Said' where nothing that the law and all that it calls make is longer than what came in: it says more and counts as full. Else prove '..UptoSaid'. A law counts once. -/
mutual
def uptoBulk {H : Type} : DataW H → Nat
  | .lit (.string bytes) => bytes.length + 1
  | .lit _ => 1
  | .nil => 1
  | .ptr d => uptoBulk d + 1
  | .slice elems spare => uptoBulkAll elems + uptoBulkAll spare + 1
  | .agg parts => uptoBulkAll parts + 1
  | .iface _ d => uptoBulk d + 1
  | .map entries => uptoBulkEntries entries + 1
  | .held _ => 1
def uptoBulkAll {H : Type} : List (DataW H) → Nat
  | [] => 0
  | d :: r => uptoBulk d + uptoBulkAll r
def uptoBulkEntries {H : Type} : List (Lit × DataW H) → Nat
  | [] => 0
  | x :: r => uptoBulkEntry x + uptoBulkEntries r
def uptoBulkEntry {H : Type} : Lit × DataW H → Nat
  | (.string bytes, d) => bytes.length + uptoBulk d + 1
  | (_, d) => uptoBulk d + 1
 end
def uptoSmall : (H : Type) → List (DataW H) → Bool := fun _ ds => decide (uptoBulkAll ds ≤ 1048576)
def OpenSpec.upto (s : _root_.Go.ChangeSpec) : _root_.Go.OpenSpec := { _root_.Go.OpenSpec.ofChange s with cond := some uptoSmall }

/-- 'laws.FnBlocks', WHERE WHAT IT READS IS OF BULK AT MOST 1048576: true; the input reads as it did. -/
def fnBlocksUptoRow : OpenClaim := { program := "ythbakjnojjkmmaa", sum := "a54da503676bcb78ed01a0454b182af273d60f212206eea45c069765f16a582c", func := "loop.example/g00036/laws.FnBlocks", spec := "fnBlocks", apart := false, narrowed := true }
def FnBlocksUptoSaid : Prop := fnBlocksUptoRow.holds Try.pinned (OpenSpec.upto fnBlocksSpec)

/-- 'laws.FnLike', WHERE WHAT IT READS IS OF BULK AT MOST 1048576: true; the input reads as it did. -/
def fnLikeUptoRow : OpenClaim := { program := "ythbakjnojjkmmaa", sum := "a54da503676bcb78ed01a0454b182af273d60f212206eea45c069765f16a582c", func := "loop.example/g00036/laws.FnLike", spec := "fnLike", apart := false, narrowed := true }
def FnLikeUptoSaid : Prop := fnLikeUptoRow.holds Try.pinned (OpenSpec.upto fnLikeSpec)

/-- 'laws.FnExactGoodName', WHERE WHAT IT READS IS OF BULK AT MOST 1048576: true; the input reads as it did. -/
def fnExactGoodNameUptoRow : OpenClaim := { program := "ythbakjnojjkmmaa", sum := "a54da503676bcb78ed01a0454b182af273d60f212206eea45c069765f16a582c", func := "loop.example/g00036/laws.FnExactGoodName", spec := "fnExactGoodName", apart := false, narrowed := true }
def FnExactGoodNameUptoSaid : Prop := fnExactGoodNameUptoRow.holds Try.pinned (OpenSpec.upto fnExactGoodNameSpec)

/-- 'laws.FnExactGoodAtom', WHERE WHAT IT READS IS OF BULK AT MOST 1048576: true; the input reads as it did. -/
def fnExactGoodAtomUptoRow : OpenClaim := { program := "ythbakjnojjkmmaa", sum := "a54da503676bcb78ed01a0454b182af273d60f212206eea45c069765f16a582c", func := "loop.example/g00036/laws.FnExactGoodAtom", spec := "fnExactGoodAtom", apart := false, narrowed := true }
def FnExactGoodAtomUptoSaid : Prop := fnExactGoodAtomUptoRow.holds Try.pinned (OpenSpec.upto fnExactGoodAtomSpec)

/-- 'laws.FnExactCompareAtoms', WHERE WHAT IT READS IS OF BULK AT MOST 1048576: true; the input reads as it did. -/
def fnExactCompareAtomsUptoRow : OpenClaim := { program := "ythbakjnojjkmmaa", sum := "a54da503676bcb78ed01a0454b182af273d60f212206eea45c069765f16a582c", func := "loop.example/g00036/laws.FnExactCompareAtoms", spec := "fnExactCompareAtoms", apart := false, narrowed := true }
def FnExactCompareAtomsUptoSaid : Prop := fnExactCompareAtomsUptoRow.holds Try.pinned (OpenSpec.upto fnExactCompareAtomsSpec)

/-- 'laws.FnExactGoodValue', WHERE WHAT IT READS IS OF BULK AT MOST 1048576: true; the input reads as it did. -/
def fnExactGoodValueUptoRow : OpenClaim := { program := "ythbakjnojjkmmaa", sum := "a54da503676bcb78ed01a0454b182af273d60f212206eea45c069765f16a582c", func := "loop.example/g00036/laws.FnExactGoodValue", spec := "fnExactGoodValue", inPlace := ["internal/bytealg.abigen_runtime_cmpstring"], unfollowed := true, recurses := true, apart := false, narrowed := true }
def FnExactGoodValueUptoSaid : Prop := fnExactGoodValueUptoRow.holds Try.pinned (OpenSpec.upto fnExactGoodValueSpec)

/-- 'laws.FnExactAddrIn', WHERE WHAT IT READS IS OF BULK AT MOST 1048576: true; the input reads as it did. -/
def fnExactAddrInUptoRow : OpenClaim := { program := "ythbakjnojjkmmaa", sum := "a54da503676bcb78ed01a0454b182af273d60f212206eea45c069765f16a582c", func := "loop.example/g00036/laws.FnExactAddrIn", spec := "fnExactAddrIn", apart := false, narrowed := true }
def FnExactAddrInUptoSaid : Prop := fnExactAddrInUptoRow.holds Try.pinned (OpenSpec.upto fnExactAddrInSpec)

/-- 'laws.FnExactLike', WHERE WHAT IT READS IS OF BULK AT MOST 1048576: true; the input reads as it did. -/
def fnExactLikeUptoRow : OpenClaim := { program := "ythbakjnojjkmmaa", sum := "a54da503676bcb78ed01a0454b182af273d60f212206eea45c069765f16a582c", func := "loop.example/g00036/laws.FnExactLike", spec := "fnExactLike", apart := false, narrowed := true }
def FnExactLikeUptoSaid : Prop := fnExactLikeUptoRow.holds Try.pinned (OpenSpec.upto fnExactLikeSpec)

end Rows
end Go.Proofs.Ythbakjnojjkmmaa

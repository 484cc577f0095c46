/- Signatures, their numbers under names. -/
import Derived.Test.YtlgloffdinnpfaaDoorDSgnD
namespace Go.Proofs.YtlgloffdinnpfaaDoor.D
set_option maxRecDepth 20000
open Go.RowKit

/-- r and z are the signature's numbers. -/
structure SigIs (s : Int) (d : List UInt8) (r z : Nat) : Prop where
  r : r = sgR s d
  z : z = sgZ s d
theorem SigIs.one {s : Int} {d : List UInt8} {r z r' z' : Nat} (h : SigIs s d r z) (k : SigIs s d r' z') : r' = r ∧ z' = z := ⟨k.r.trans h.r.symm, k.z.trans h.z.symm⟩
theorem iSign_of (s : Int) (ad : Option Addr) (ld cd : Nat) (d : List UInt8) (w : World) (h2 : ld ≤ 1048576) (hd : SlB w w.heap.size ad ld d) (hM : Mults w) :
    Calls Tryd.prog 17 #[.int .i64 s, .slice ad ld cd] w fun e w' => ∃ r z : Nat, SigIs s d r z ∧ e = .returned (.agg #[.int .i64 (r : Int), .int .i64 (z : Int)]) ∧ Below w.heap.size w w' :=
  (iSign_any s ad ld cd d w h2 hd hM).mono fun _ _ ⟨he, hb⟩ => ⟨_, _, ⟨rfl, rfl⟩, he, hb⟩
end Go.Proofs.YtlgloffdinnpfaaDoor.D

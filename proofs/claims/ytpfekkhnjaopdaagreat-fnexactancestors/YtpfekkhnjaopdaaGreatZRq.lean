/- impl.Request in memory, by what it holds: sized, copied, held against itself, read. -/
import Derived.Test.YtpfekkhnjaopdaaGreatZVa
namespace Go.Proofs.YtpfekkhnjaopdaaGreat.V
set_option linter.unusedSimpArgs false
open Go.ChangeShapes Go.WideShapes Go.RowKit

structure RequestT where
  f0 : AtomT
  f1 : AtomT
  f2 : AtomT
  f3 : List ByteArray
  f4 : List ValT
structure RequestE where
  t : RequestT
  h3 : Hd
  h4 : Hd
structure RequestN (x : RequestT) : Prop where
  o0 : x.f0.Ok
  o1 : x.f1.Ok
  o2 : x.f2.Ok
  o3 : ∀ q ∈ x.f3, ByteArray.size q ≤ maxLen
  l3 : x.f3.length ≤ maxLen
  o4 : ∀ q ∈ x.f4, ValueN q
  l4 : x.f4.length ≤ maxLen
  tt : True
structure RequestSm (x : RequestT) : Prop where
  l3 : x.f3.length ≤ 1048576
  l4 : x.f4.length ≤ 1048576
  o4 : ∀ q ∈ x.f4, ValueSm q
  tt : True
structure RequestM (w : World) (lo : Nat) (e : RequestE) : Prop where
  m3 : SqS w lo e.h3 e.t.f3
  m4 : SqValue w lo e.h4 e.t.f4
  tt : True
theorem RequestM.fr {w w1 : World} {lo : Nat} {e : RequestE} (h : RequestM w lo e) (hf : Fr lo w w1) : RequestM w1 lo e := ⟨h.m3.fr hf, h.m4.fr hf, h.tt⟩
theorem RequestM.lo {w : World} {lo lo' : Nat} {e : RequestE} (h : RequestM w lo e) (hl : lo' ≤ lo) : RequestM w lo' e := ⟨h.m3.lo hl, h.m4.lo hl, h.tt⟩
theorem RequestM.keep {w w1 : World} {lo : Nat} {e : RequestE} (h : RequestM w lo e) (hb : Below w.heap.size w w1) : RequestM w1 lo e := h.fr (Fr.below hb lo)
theorem listcRequest {α : Type} {l : List α} (h : l.length = 14) : ∃ a0 a1 a2 a3 a4 a5 a6 a7 a8 a9 a10 a11 a12 a13, l = [a0, a1, a2, a3, a4, a5, a6, a7, a8, a9, a10, a11, a12, a13] := by
  match l, h with
  | [a0, a1, a2, a3, a4, a5, a6, a7, a8, a9, a10, a11, a12, a13], _ => exact ⟨a0, a1, a2, a3, a4, a5, a6, a7, a8, a9, a10, a11, a12, a13, rfl⟩
theorem listfRequest {α : Type} {l : List α} (h : l.length = 5) : ∃ a0 a1 a2 a3 a4, l = [a0, a1, a2, a3, a4] := by
  match l, h with
  | [a0, a1, a2, a3, a4], _ => exact ⟨a0, a1, a2, a3, a4, rfl⟩
section
variable {H : Type} {enc : TypeId × Value → H} {w : World} {base : Nat} {sp : Nat → Bool} {held : Bool}
end
end Go.Proofs.YtpfekkhnjaopdaaGreat.V

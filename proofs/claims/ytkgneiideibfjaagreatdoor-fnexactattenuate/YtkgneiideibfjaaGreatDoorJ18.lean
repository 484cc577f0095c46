/- WCmpA, WValI, one behind the other. -/
import Derived.Test.YtkgneiideibfjaaGreatDoorJ16
import Derived.Test.YtkgneiideibfjaaGreatDoorJ8
import Derived.Deep.RegionHeld3
import Derived.Deep.DeepCutAuto
import Derived.Test.YtkgneiideibfjaaGreatDoorJ17
import Derived.Lib.Bytealg
import Derived.Laws.Externs
/- WCmpA, ported from seat 1a. -/
namespace Go.Proofs.YtkgneiideibfjaaGreatDoor.V
open Go.RowKit

def cmpG (x n : Int) (t y : ByteArray) (x' n' : Int) (t' y' : ByteArray) : Int :=
  if goodAtom x n t y = true ∧ goodAtom x' n' t' y' = true then cmpA x n t y x' n' t' y' else -2

end Go.Proofs.YtkgneiideibfjaaGreatDoor.V
/- WValI, ported from seat 1a. -/
namespace Go.Proofs.YtkgneiideibfjaaGreatDoor.V
open Go.RowKit

theorem AtomT.iGood (a : AtomT) (h : a.Ok) (w : World) : Calls Tryz.prog 43 #[.agg #[.int .i64 a.x, .int .i64 a.n, .string a.t, .string a.y]] w fun e w' => e = .returned (.bool a.good) ∧ Below w.heap.size w w' :=
  iGoodAtom_any a.x a.n a.t a.y w h.n9 h.t9 h.y9
theorem compareBytes_eq : ∀ a b : List UInt8, Lib.compareBytes a b = cmpT a b
  | [], [] => rfl
  | [], _ :: _ => rfl
  | _ :: _, [] => rfl
  | a :: x, b :: y => by
    unfold Lib.compareBytes cmpT
    by_cases e : a = b
    · subst e
      rw [if_neg (by simp), if_neg (by simp), if_pos rfl]
      exact compareBytes_eq x y
    · rw [if_neg e]
      unfold cmpN
      by_cases l : a < b
      · have l' : (a.toNat : Int) < (b.toNat : Int) := by have := UInt8.lt_iff_toNat_lt.1 l; omega
        rw [if_pos l, if_pos l']
      · have l' : ¬ (a.toNat : Int) < (b.toNat : Int) := fun h => l (UInt8.lt_iff_toNat_lt.2 (by omega))
        have l2 : (b.toNat : Int) < (a.toNat : Int) := by
          have : ¬ (a.toNat : Int) = (b.toNat : Int) := fun h => e (u8_eq h)
          omega
        rw [if_neg l, if_pos (UInt8.lt_iff_toNat_lt.2 (by omega)), if_neg l', if_pos l2]

end Go.Proofs.YtkgneiideibfjaaGreatDoor.V

/- WValI, ported from seat 1a. -/
import Derived.Test.YtfdfglblcgdoiaaDoorWValR
import Derived.Test.YtfdfglblcgdoiaaDoorWCmpA
import Derived.Lib.Bytealg
import Derived.Laws.Externs
namespace Go.Proofs.YtfdfglblcgdoiaaDoor.V
open Go.RowKit

theorem AtomT.iGood (a : AtomT) (h : a.Ok) (w : World) : Calls Tryd.prog 56 #[.agg #[.int .i64 a.x, .int .i64 a.n, .string a.t, .string a.y]] w fun e w' => e = .returned (.bool a.good) ∧ Below w.heap.size w w' :=
  iGoodAtom_any a.x a.n a.t a.y w h.n9 h.t9 h.y9
theorem compareBytes_eq : ∀ a b : List UInt8, Lib.compareBytes a b = cmpT a b
  | [], [] => rfl
  | [], _ :: _ => rfl
  | _ :: _, [] => rfl
  | a :: x, b :: y => by
    unfold Lib.compareBytes cmpT
    by_cases e : a = b
    · subst e
      rw [if_neg (by simp), if_neg (by simp), if_pos rfl]
      exact compareBytes_eq x y
    · rw [if_neg e]
      unfold cmpN
      by_cases l : a < b
      · have l' : (a.toNat : Int) < (b.toNat : Int) := by have := UInt8.lt_iff_toNat_lt.1 l; omega
        rw [if_pos l, if_pos l']
      · have l' : ¬ (a.toNat : Int) < (b.toNat : Int) := fun h => l (UInt8.lt_iff_toNat_lt.2 (by omega))
        have l2 : (b.toNat : Int) < (a.toNat : Int) := by
          have : ¬ (a.toNat : Int) = (b.toNat : Int) := fun h => e (u8_eq h)
          omega
        rw [if_neg l, if_pos (UInt8.lt_iff_toNat_lt.2 (by omega)), if_neg l', if_pos l2]

end Go.Proofs.YtfdfglblcgdoiaaDoor.V

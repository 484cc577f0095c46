/- spec.l2Letters, l2Armor, Armor. -/
import Derived.Test.YtinbmibfflebcaaDoorDByt
import Derived.Test.YtinbmibfflebcaaDoorDArmP
import Derived.Maps.AppendAt
import Derived.Lib.SlBytesRow
import Derived.Lib.BufferRead
namespace Go.Proofs.YtinbmibfflebcaaDoor.D
set_option maxRecDepth 20000
open Go.RowKit

theorem own_snocU {w' : World} {base : Nat} {v' : Value} {pre : List UInt8} {c : UInt8} (h : w'.ownsRow base 5 1 v' (pre.length + 1) (pre.map byteV ++ [byteV c])) : w'.ownsRow base 5 1 v' (pre ++ [c]).length ((pre ++ [c]).map byteV) := by
  simpa using h
theorem own_dr {w : World} {base : Nat} {v : Value} {n : Nat} {xs : List Value} (h : w.ownsRow base 5 1 v n xs) (k : Nat) : (w.drewN k).ownsRow base 5 1 v n xs := h
theorem conv_own {w : World} {base : Nat} {v : Value} {l : List UInt8} (h : w.ownsRow base 5 1 v l.length (l.map byteV)) :
    (convert 22 9 v).run Tryd.prog w = .ok (.string ⟨l.toArray⟩) w := by
  rcases h.2 with ⟨rfl, e⟩ | ⟨g, cap, cur, rfl, _, hh, _, _, hsz, htk⟩
  · have : l = [] := List.length_eq_zero_iff.1 e
    subst this
    exact Go.Lib.run_convert_nil_bytes w 22 9 5 0 Tryd.underlying22 Tryd.underlying5 Tryd.underlying9
  · have := Go.Lib.run_convert_whole (P := Tryd.prog) w 22 5 9 Tryd.underlying22 Tryd.underlying5 Tryd.underlying9 g 0 ⟨l.toArray⟩ (fun i hi => by
      have hi' : i < l.length := hi
      have hr : RowIs w g cur 5 := hh
      have f0 : (l.map byteV)[i]? = some (.int .u8 (l[i].toNat : Int)) := by simp [byteV, hi']
      rw [← htk, List.getElem?_take] at f0
      rw [Nat.zero_add, hr.cell, ← Array.getElem?_toList]
      split at f0
      · exact f0
      · cases f0) cap
    exact this

def letS : ByteArray := ⟨#[48, 49, 50, 51, 52, 53, 54, 55, 56, 57, 97, 98, 99, 100, 101, 102, 103, 104, 105, 106, 107, 108, 109, 110, 111, 112, 113, 114, 115, 116, 117, 118]⟩
theorem letS_get (n : Nat) (h : n < 32) : letS[n]'(by exact h) = letOf n := by
  have key : ∀ n : Fin 32, letS[n.1]'(n.2) = letOf n.1 := by decide
  exact key ⟨n, h⟩
/-- 'armorLetters[n]'. -/
theorem run_letter (n : Nat) (h : n < 32) (w : World) : (Instr.index 9 (.string letS) (.int .i64 (n : Int))).run Tryd.prog w = .ok (byteV (letOf n)) w := by
  rw [run_index_string (P := Tryd.prog) w 9 letS .i64 (n : Int) Tryd.underlying9, dif_pos ⟨by omega, by show (n : Int) < (32 : Int); omega⟩]
  show Result.ok (Value.int .u8 ((letS[n]'(by exact h)).toNat : Int)) w = _
  rw [letS_get n h]; rfl
theorem getD_at (l : List UInt8) (i : Nat) (h : i < l.length) : l.getD i 0 = l[i] := by
  rw [List.getD_eq_getElem?_getD, List.getElem?_eq_getElem h]; rfl
theorem pre_step (l : List UInt8) (b t : Nat) : pre l b (t + 1) = pre l b t * 2 + bit l (b + t) := by simp only [pre]; omega
theorem arm_pre (l : List UInt8) (j : Nat) (h : 5 * j < 8 * l.length) : (arm l).take (j + 1) = (arm l).take j ++ [letOf (five l (5 * j))] := by
  have hj : j < (arm l).length := by rw [arm_len]; exact (many_lt _ _).2 h
  rw [List.take_succ_eq_append_getElem hj, arm_get]

/-- The armour of at most 20000 bytes; of more none. -/
def armD (l : List UInt8) : List UInt8 := if l.length ≤ 20000 then arm l else []
end Go.Proofs.YtinbmibfflebcaaDoor.D

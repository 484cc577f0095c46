/- spec.l3Escaped. -/
import Derived.Test.YtdhpfhpegaekpaaDoorQRow
import Derived.Laws.AppendOwn
import Derived.Lib.SlBytesRow
import Derived.Lib.BufferRead
import Derived.Lib.SmallJoins
namespace Go.Proofs.YtdhpfhpegaekpaaDoor
open Go.RowKit

def byteV (c : UInt8) : Value := .int .u8 (c.toNat : Int)
/-- The backslashes that stand ahead of a byte. -/
def escs (so : List UInt8) (c : UInt8) : List UInt8 := (so.filter (· == c)).map (fun _ => 92)
def esc (so s : List UInt8) : List UInt8 := s.flatMap fun c => escs so c ++ [c]
theorem esc_snoc (so s : List UInt8) (c : UInt8) : esc so (s ++ [c]) = esc so s ++ escs so c ++ [c] := by simp [esc]
theorem escs_snoc (so : List UInt8) (d c : UInt8) : escs (so ++ [d]) c = escs so c ++ (if d = c then [92] else []) := by
  unfold escs
  rw [List.filter_append, List.map_append]
  by_cases h : d = c <;> simp [h]
theorem escs_len (so : List UInt8) (c : UInt8) : (escs so c).length ≤ so.length := by
  unfold escs; simp; exact List.length_filter_le _ _
theorem info_u8 : (Tryd.prog.info? 5).map (fun i => (i.zero, i.size, i.bytes)) = some (some (.int .u8 0), 1, 1) := by kernel_rfl
theorem own_snocU {w' : World} {base : Nat} {v' : Value} {pre : List UInt8} {c : UInt8} (h : w'.ownsRow base 5 1 v' (pre.length + 1) (pre.map byteV ++ [byteV c])) : w'.ownsRow base 5 1 v' (pre ++ [c]).length ((pre ++ [c]).map byteV) := by
  simpa using h
theorem own_dr {w : World} {base : Nat} {v : Value} {n : Nat} {xs : List Value} (h : w.ownsRow base 5 1 v n xs) (k : Nat) : (w.drewN k).ownsRow base 5 1 v n xs := h
theorem bDr {B : Nat} {w w' : World} (h : Below B w w') (k : Nat) : Below B w (w'.drewN k) := ⟨h.os, h.tape, h.output, h.size, h.block⟩
theorem take_at (s : ByteArray) (k : Nat) (h : k < s.size) : s.data.toList.take (k + 1) = s.data.toList.take k ++ [s[k]] := by
  rw [List.take_succ_eq_append_getElem (by simpa using h)]; rfl

theorem conv_own {w : World} {base : Nat} {v : Value} {l : List UInt8} (h : w.ownsRow base 5 1 v l.length (l.map byteV)) :
    (convert 69 9 v).run Tryd.prog w = .ok (.string ⟨l.toArray⟩) w := by
  rcases h.2 with ⟨rfl, e⟩ | ⟨g, cap, cur, rfl, _, hh, _, _, hsz, htk⟩
  · have : l = [] := List.length_eq_zero_iff.1 e
    subst this
    exact Go.Lib.run_convert_nil_bytes w 69 9 5 0 Tryd.underlying69 Tryd.underlying5 Tryd.underlying9
  · have := Go.Lib.run_convert_whole (P := Tryd.prog) w 69 5 9 Tryd.underlying69 Tryd.underlying5 Tryd.underlying9 g 0 ⟨l.toArray⟩ (fun i hi => by
      have hi' : i < l.length := hi
      have hr : RowIs w g cur 5 := hh
      have f0 : (l.map byteV)[i]? = some (.int .u8 (l[i].toNat : Int)) := by simp [byteV, hi']
      rw [← htk, List.getElem?_take] at f0
      rw [Nat.zero_add, hr.cell, ← Array.getElem?_toList]
      split at f0
      · exact f0
      · cases f0) cap
    exact this

end Go.Proofs.YtdhpfhpegaekpaaDoor

/- spec.l3Escaped. -/
import Derived.Test.YtlkpeolecfemnaaQRow
import Derived.Laws.AppendOwn
import Derived.Lib.SlBytesRow
import Derived.Lib.BufferRead
import Derived.Lib.SmallJoins
namespace Go.Proofs.Ytlkpeolecfemnaa
open Go.RowKit

def byteV (c : UInt8) : Value := .int .u8 (c.toNat : Int)
/-- The backslashes that stand ahead of a byte. -/
def escs (so : List UInt8) (c : UInt8) : List UInt8 := (so.filter (· == c)).map (fun _ => 92)
def esc (so s : List UInt8) : List UInt8 := s.flatMap fun c => escs so c ++ [c]
theorem esc_snoc (so s : List UInt8) (c : UInt8) : esc so (s ++ [c]) = esc so s ++ escs so c ++ [c] := by simp [esc]
theorem escs_snoc (so : List UInt8) (d c : UInt8) : escs (so ++ [d]) c = escs so c ++ (if d = c then [92] else []) := by
  unfold escs
  rw [List.filter_append, List.map_append]
  by_cases h : d = c <;> simp [h]
theorem escs_len (so : List UInt8) (c : UInt8) : (escs so c).length ≤ so.length := by
  unfold escs; simp; exact List.length_filter_le _ _
theorem info_u8 : (Try.prog.info? 5).map (fun i => (i.zero, i.size, i.bytes)) = some (some (.int .u8 0), 1, 1) := by kernel_rfl
theorem own_snocU {w' : World} {base : Nat} {v' : Value} {pre : List UInt8} {c : UInt8} (h : w'.ownsRow base 5 1 v' (pre.length + 1) (pre.map byteV ++ [byteV c])) : w'.ownsRow base 5 1 v' (pre ++ [c]).length ((pre ++ [c]).map byteV) := by
  simpa using h
theorem own_dr {w : World} {base : Nat} {v : Value} {n : Nat} {xs : List Value} (h : w.ownsRow base 5 1 v n xs) (k : Nat) : (w.drewN k).ownsRow base 5 1 v n xs := h
theorem bDr {B : Nat} {w w' : World} (h : Below B w w') (k : Nat) : Below B w (w'.drewN k) := ⟨h.os, h.tape, h.output, h.size, h.block⟩
theorem take_at (s : ByteArray) (k : Nat) (h : k < s.size) : s.data.toList.take (k + 1) = s.data.toList.take k ++ [s[k]] := by
  rw [List.take_succ_eq_append_getElem (by simpa using h)]; rfl

theorem conv_own {w : World} {base : Nat} {v : Value} {l : List UInt8} (h : w.ownsRow base 5 1 v l.length (l.map byteV)) :
    (convert 70 9 v).run Try.prog w = .ok (.string ⟨l.toArray⟩) w := by
  rcases h.2 with ⟨rfl, e⟩ | ⟨g, cap, cur, rfl, _, hh, _, _, hsz, htk⟩
  · have : l = [] := List.length_eq_zero_iff.1 e
    subst this
    exact Go.Lib.run_convert_nil_bytes w 70 9 5 0 Try.underlying70 Try.underlying5 Try.underlying9
  · have := Go.Lib.run_convert_whole (P := Try.prog) w 70 5 9 Try.underlying70 Try.underlying5 Try.underlying9 g 0 ⟨l.toArray⟩ (fun i hi => by
      have hi' : i < l.length := hi
      have hr : RowIs w g cur 5 := hh
      have f0 : (l.map byteV)[i]? = some (.int .u8 (l[i].toNat : Int)) := by simp [byteV, hi']
      rw [← htk, List.getElem?_take] at f0
      rw [Nat.zero_add, hr.cell, ← Array.getElem?_toList]
      split at f0
      · exact f0
      · cases f0) cap
    exact this

set_option maxHeartbeats 1000000 in
theorem escaped_any (s so : ByteArray) (hs : s.size ≤ 1000) (hso : so.size ≤ 10) (w : World) :
    Calls Try.prog 18 #[.string s, .string so] w fun e w' => e = .returned (.string ⟨(esc so.data.toList s.data.toList).toArray⟩) ∧ Below w.heap.size w w' := by
  obtain ⟨i0, hi, hz0, hz1, hz2⟩ := info_parts info_u8
  go_enter Try.func18, Try.ntmps18
  go_wp2_with fail
  go_loopw [5, 6] (fun v i w' => ∃ (k : Nat) (pre : List UInt8), k ≤ s.size ∧ pre.length ≤ 11 * k ∧ i = .int .i64 k ∧ Hid (w'.ownsRow w.heap.size 5 1 v pre.length (pre.map byteV)) ∧ Hid (Below w.heap.size w w') ∧ Hid (pre = esc so.data.toList (s.data.toList.take k))) (fun _ i _ => s.size - (intOf i).toNat)
  case atStart => exact ⟨0, [], Nat.zero_le _, Nat.zero_le _, rfl, hide (World.ownsRow_nil _ _ _ _), hide (Below.refl _ _), hide rfl⟩
  case round =>
    obtain ⟨k, pre, hk, hpre, rfl, hown, hb, hl⟩ := hrel
    by_cases hlt : k < s.size
    · have ed := hide (take_at s k hlt)
      obtain ⟨c, hc⟩ : ∃ c, s[k] = c := ⟨_, rfl⟩
      rw [hc] at ed
      go_wp2_with fail
      go_loopw [5, 7] (fun v i w' => ∃ (j : Nat) (mid : List UInt8), j ≤ so.size ∧ (pre ++ mid).length ≤ 11 * k + j ∧ i = .int .i64 j ∧ Hid (w'.ownsRow w.heap.size 5 1 v (pre ++ mid).length ((pre ++ mid).map byteV)) ∧ Hid (Below w.heap.size w w') ∧ Hid (mid = escs (so.data.toList.take j) c)) (fun _ i _ => so.size - (intOf i).toNat)
      case atStart => exact ⟨0, [], Nat.zero_le _, by simpa using hpre, rfl, by rw [List.append_nil]; exact hown, hb, hide rfl⟩
      case round =>
        obtain ⟨j, mid, hj, hmid, rfl, hown2, hb2, hm⟩ := hrel
        by_cases hjt : j < so.size
        · have ej := hide (take_at so j hjt)
          obtain ⟨d, hd⟩ : ∃ d, so[j] = d := ⟨_, rfl⟩
          rw [hd] at ej
          cases cd : ((c.toNat : Int) == (d.toNat : Int))
          · have st := hide (show mid = escs (so.data.toList.take (j + 1)) c by
              rw [unhide ej, escs_snoc, ← unhide hm, if_neg (fun h => by rw [h] at cd; simp at cd), List.append_nil])
            go_wp2_with fail
            go_quiet (fail)
            go_wp2_with fail
            exact ⟨⟨j + 1, mid, by omega, by omega, rfl, hide (own_dr (unhide hown2) _), hide (bDr (unhide hb2) _), st⟩, by simp [intOf]; omega⟩
          · have st := hide (show mid ++ [92] = escs (so.data.toList.take (j + 1)) c by
              have e : d = c := by
                have : (c.toNat : Int) = d.toNat := by simpa using cd
                exact UInt8.toNat_inj.1 (by omega)
              rw [unhide ej, escs_snoc, ← unhide hm, if_pos e])
            go_wp2_with fail
            go_quiet (fail)
            go_wp2_with (at_builtin; refine wpList_append_own _ rfl _ _ 70 rfl w.heap.size 5 i0 (.int .u8 0) 1 1 Try.underlying70 hi hz0 hz1 hz2 rfl (by decide) _ _ _ rfl ((own_dr (unhide hown2) _).alloc _) ⟨_, 0, none⟩ 1 1 [byteV 92] rfl rfl (cell_one_new _ _ _) (fun x hx => by simp at hx; subst hx; rfl) (by unfold maxLen; omega) (by omega) (by have := (unhide hb2).size; simp; omega) ?_; intro v' w1 hown1 hgrow1 _)
            exact ⟨⟨j + 1, mid ++ [92], by omega, by rw [← List.append_assoc, List.length_append]; simp only [List.length_cons, List.length_nil]; omega, rfl, by rw [← List.append_assoc]; exact hide (own_snocU hown1), hide ((bAl (bDr (unhide hb2) _) _).grown hgrow1 (by have := (unhide hb2).size; simp; omega) (fun j hj => ((unhide hown2).lt j hj).1)), st⟩, by simp [intOf]; omega⟩
        · have e : j = so.size := by omega
          have st := hide (show pre ++ mid ++ [c] = esc so.data.toList (s.data.toList.take (k + 1)) by
            rw [unhide ed, esc_snoc, ← unhide hl, unhide hm, e, List.take_of_length_le (by simp)])
          go_wp2_with (at_builtin; refine wpList_append_own _ rfl _ _ 70 rfl w.heap.size 5 i0 (.int .u8 0) 1 1 Try.underlying70 hi hz0 hz1 hz2 rfl (by decide) _ _ _ rfl ((unhide hown2).alloc _) ⟨_, 0, none⟩ 1 1 [byteV c] rfl rfl (cell_one_new _ _ _) (fun x hx => by simp at hx; subst hx; rfl) (by unfold maxLen; omega) (by omega) (by have := (unhide hb2).size; simp; omega) ?_; intro v' w1 hown1 hgrow1 _)
          exact ⟨⟨k + 1, pre ++ mid ++ [c], by omega, by rw [List.length_append]; simp only [List.length_cons, List.length_nil]; omega, rfl, hide (own_snocU hown1), hide ((bAl (unhide hb2) _).grown hgrow1 (by have := (unhide hb2).size; simp; omega) (fun j hj => ((unhide hown2).lt j hj).1)), st⟩, by simp [intOf]; omega⟩
    · have e : k = s.size := by omega
      have st := hide (show pre = esc so.data.toList s.data.toList by
        rw [unhide hl, e, List.take_of_length_le (by simp)])
      have cv := conv_own (unhide hown)
      rw [unhide st] at cv
      go_wp2_with fail
      go_ret
      exact ⟨rfl, unhide hb⟩

end Go.Proofs.Ytlkpeolecfemnaa

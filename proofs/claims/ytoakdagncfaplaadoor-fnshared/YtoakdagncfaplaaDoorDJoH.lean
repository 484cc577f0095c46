/- impl.goodShares. -/
import Derived.Test.YtoakdagncfaplaaDoorDJoG
namespace Go.Proofs.YtoakdagncfaplaaDoor.D
set_option maxRecDepth 20000
open Go.RowKit

theorem ShRow.take {w : World} {b off : Nat} {l : List (Int × Int)} (h : ShRow w b off l) (k : Nat) : ShRow w b off (l.take k) := by
  refine ⟨h.z, fun i hi => ?_, fun i hi => ?_⟩
  · rw [List.getElem_take]; exact h.c0 i (by simp at hi; omega)
  · rw [List.getElem_take]; exact h.c1 i (by simp at hi; omega)
/-- The first k shares are in bounds, and no place comes twice. -/
def OkTo (l : List (Int × Int)) (k : Nat) : Prop := ∀ i (h : i < l.length), i < k → shareB l[i].1 l[i].2 = true ∧ (l.take i).any (fun s => decide (s.1 = l[i].1)) = false

set_option maxHeartbeats 1000000 in
theorem goodShares_any (b off len cap : Nat) (l : List (Int × Int)) (w : World) (hl : len = l.length) (h1 : 1 ≤ len) (hlen : len ≤ 20) (hc : len ≤ cap) (hs : ShRow w b off l) :
    Calls Tryd.prog 16 #[.slice (some ⟨b, off, none⟩) len cap] w fun e w' => (∃ t : Bool, e = .returned (.bool t) ∧ (t = true ↔ OkTo l l.length)) ∧ Below w.heap.size w w' := by
  have HS := hide hs
  have HL := hide hl
  clear hs hl
  go_enter Tryd.func16, Tryd.ntmps16
  go_wp2_with fail
  go_loopw [16] (fun i w' => ∃ (k : Nat), k ≤ len ∧ i = .int .i64 k ∧ Hid (OkTo l k) ∧ Hid (Below w.heap.size w w')) (fun i _ => len - (intOf i).toNat)
  case atStart => exact ⟨0, Nat.zero_le _, rfl, hide (fun i _ h => absurd h (Nat.not_lt_zero _)), hide (Below.refl _ _)⟩
  case round =>
    obtain ⟨k, hk, rfl, ha, hb⟩ := hrel
    by_cases hlt : k < len
    · have hk' : k < l.length := by rw [← unhide HL]; exact hlt
      have r := (unhide HS).keep (unhide hb)
      have R := hide (r.take k)
      have p0 := r.c0 k hk'
      have p1 := r.c1 k hk'
      have eT := hide (show ∀ j, OkTo l j → (k < j → shareB l[k].1 l[k].2 = true ∧ (l.take k).any (fun s => decide (s.1 = l[k].1)) = false) from fun j h hj => h k hk' hj)
      have eN := hide (show shareB l[k].1 l[k].2 = true → (l.take k).any (fun s => decide (s.1 = l[k].1)) = false → OkTo l (k + 1) from fun h1 h2 i hi hik => by
        rcases Nat.lt_or_ge i k with h | h
        · exact unhide ha i hi h
        · obtain rfl : i = k := by omega
          exact ⟨h1, h2⟩)
      have hlk := hide (show k = (l.take k).length by rw [List.length_take]; omega)
      have eJ := hide (show k < l.length from hk')
      clear r
      generalize l[k] = s at p0 p1 eT eN
      obtain ⟨X, Y⟩ := s
      simp only at p0 p1
      have i0 : (0 : Int) ≤ (k : Int) := by omega
      have i1 : (k : Int) < (len : Int) := by omega
      have RA := hide (RowIs.new wr #[.int .i64 X, .int .i64 Y] 28)
      have BA := hide (bAl (unhide hb) (.cells #[.int .i64 X, .int .i64 Y] 28))
      have RS := hide ((unhide R).keep (bAl (Below.refl _ _) (.cells #[.int .i64 X, .int .i64 Y] 28)))
      clear R
      go_wp2_with fail
      refine (goodShare_any X Y _).mono ?_
      rintro e w2 ⟨rfl, hb2⟩
      have R2 := hide ((unhide RA).keep hb2)
      have S2 := hide ((unhide RS).keep hb2)
      have B2 := hide (bTr (unhide BA) hb2)
      clear hb2 RA RS BA p0 p1
      cases hg : shareB X Y
      · have hg' := hide hg
        clear hg
        go_wp2_with fail
        go_ret
        refine ⟨⟨false, rfl, ?_⟩, unhide B2⟩
        constructor
        · intro h; cases h
        · intro h
          have := (unhide eT _ h (unhide eJ)).1
          rw [unhide hg'] at this
          cases this
      · have hg' := hide hg
        clear hg
        go_wp2_with fail
        refine (containsFunc_any wr.heap.size b off k cap (l.take k) X Y _ (unhide hlk) (by omega) (unhide R2) (unhide S2)).mono ?_
        rintro e w3 ⟨rfl, hb3⟩
        have B3 := hide (bTr (unhide B2) hb3)
        clear hb3
        cases ht : (l.take k).any (fun s => decide (s.1 = X))
        · have HT := hide ht
          clear ht
          go_wp2_with fail
          exact ⟨⟨k + 1, by omega, by go_num, hide (unhide eN (unhide hg') (unhide HT)), B3⟩, by simp [intOf]; omega⟩
        · have HT := hide ht
          clear ht
          go_wp2_with fail
          go_ret
          refine ⟨⟨false, rfl, ?_⟩, unhide B3⟩
          constructor
          · intro h; cases h
          · intro h
            have := (unhide eT _ h (unhide eJ)).2
            rw [unhide HT] at this
            cases this
    · obtain rfl : k = len := by omega
      go_wp2_with fail
      go_ret
      refine ⟨⟨true, rfl, ?_⟩, unhide hb⟩
      rw [← unhide HL]
      exact ⟨fun _ => unhide ha, fun _ => rfl⟩
end Go.Proofs.YtoakdagncfaplaaDoor.D

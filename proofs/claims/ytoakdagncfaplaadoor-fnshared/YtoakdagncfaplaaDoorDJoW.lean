/- Shares in memory; impl.weightOf. -/
import Derived.Test.YtoakdagncfaplaaDoorDJoP
import Derived.Test.YtoakdagncfaplaaDoorDByt
namespace Go.Proofs.YtoakdagncfaplaaDoor.D
set_option maxRecDepth 20000
open Go.RowKit

/-- Shares in memory: two cells each. -/
structure ShRow (w : World) (b off : Nat) (l : List (Int × Int)) : Prop where
  z : b < w.heap.size
  c0 : ∀ i (h : i < l.length), w.cell? ⟨b, off + i * 2, none⟩ = some (.int .i64 l[i].1)
  c1 : ∀ i (h : i < l.length), w.cell? ⟨b, off + i * 2 + 1, none⟩ = some (.int .i64 l[i].2)
theorem ShRow.keepB {B : Nat} {w w1 : World} {b off : Nat} {l : List (Int × Int)} (h : ShRow w b off l) (hb : Below B w w1) (hB : b < B) : ShRow w1 b off l :=
  ⟨Nat.lt_of_lt_of_le h.z hb.size, fun i hi => cellC hb (p := ⟨b, off + i * 2, none⟩) hB (h.c0 i hi), fun i hi => cellC hb (p := ⟨b, off + i * 2 + 1, none⟩) hB (h.c1 i hi)⟩
theorem ShRow.keep {w w1 : World} {b off : Nat} {l : List (Int × Int)} (h : ShRow w b off l) (hb : Below w.heap.size w w1) : ShRow w1 b off l := h.keepB hb h.z
def ints (l : List (Nat × Nat)) : List (Int × Int) := l.map fun s => ((s.1 : Int), (s.2 : Int))
theorem ints_len (l : List (Nat × Nat)) : (ints l).length = l.length := by simp [ints]
theorem ints_get (l : List (Nat × Nat)) (i : Nat) (h : i < (ints l).length) : (ints l)[i] = (((l[i]'(by rw [← ints_len]; exact h)).1 : Int), ((l[i]'(by rw [← ints_len]; exact h)).2 : Int)) := by simp [ints]
theorem wt_eq (P E : Nat) (l : List (Nat × Nat)) (x : Nat) : wt P E l x = sk P x l 1 * pw (bl P x l 1) E P % P := rfl
theorem take_snoc {α : Type} (l : List α) (k : Nat) (h : k < l.length) : l.take (k + 1) = l.take k ++ [l[k]] := by simp

set_option maxHeartbeats 1000000 in
theorem weightOf_any (b off len cap : Nat) (l : List (Nat × Nat)) (x y : Nat) (w : World) (hl : len = l.length) (hlen : len ≤ 20) (hx : x < 1073741789) (hg : ∀ s ∈ l, s.1 < 1073741789)
    (hr : ShRow w b off (ints l)) :
    Calls Tryd.prog 17 #[.slice (some ⟨b, off, none⟩) len cap, .agg #[.int .i64 x, .int .i64 y]] w fun e w' => e = .returned (.int .i64 (wt 1073741789 1073741787 l x)) ∧ Below w.heap.size w w' := by
  have HR := hide (hr.keep (bAl (Below.refl _ _) (.cells #[.int .i64 (x : Int), .int .i64 (y : Int)] 28)))
  have RA := hide (RowIs.new w #[.int .i64 (x : Int), .int .i64 (y : Int)] 28)
  have BA := hide (bAl (Below.refl w.heap.size w) (.cells #[.int .i64 (x : Int), .int .i64 (y : Int)] 28))
  have hbz := hr.z
  have HL := hide hl
  have HG := hide hg
  have hsz := hide (show (w.alloc (.cells #[.int .i64 (x : Int), .int .i64 (y : Int)] 28)).heap.size = w.heap.size + 1 by simp)
  clear hr hl hg
  obtain ⟨W, hW⟩ : ∃ W, w.alloc (.cells #[.int .i64 (x : Int), .int .i64 (y : Int)] 28) = W := ⟨_, rfl⟩
  have HW := hide hW
  go_enter Tryd.func17, Tryd.ntmps17
  go_wp2_with fail
  rw [hW] at HR RA BA hsz
  clear hW HW
  go_loopw [5, 6, 11] (fun u v i w' => ∃ (k S D : Nat), k ≤ len ∧ i = .int .i64 k ∧ u = .int .i64 S ∧ v = .int .i64 D ∧ S < 1073741789 ∧ D < 1073741789 ∧ Hid (S = sk 1073741789 x (l.take k) 1) ∧ Hid (D = bl 1073741789 x (l.take k) 1) ∧ Hid (Below W.heap.size W w')) (fun _ _ i _ => len - (intOf i).toNat)
  case atStart => exact ⟨0, 1, 1, Nat.zero_le _, rfl, rfl, rfl, by omega, by omega, hide rfl, hide rfl, hide (Below.refl _ _)⟩
  case round =>
    obtain ⟨k, S, D, hk, rfl, rfl, rfl, hS, hD, eS, eD, hb⟩ := hrel
    by_cases hlt : k < len
    · have hk' : k < l.length := by rw [← unhide HL]; exact hlt
      have r := (unhide HR).keep (unhide hb)
      have p0 := r.c0 k (by rw [ints_len]; exact hk')
      have p1 := r.c1 k (by rw [ints_len]; exact hk')
      rw [ints_get] at p0 p1
      have hX := unhide HG _ (List.getElem_mem hk')
      have eT := hide (take_snoc l k hk')
      generalize l[k] = s at p0 p1 hX eT
      obtain ⟨X, Y⟩ := s
      have hzr := (unhide hb).size
      have q0 := hide (((unhide RA).keep (unhide hb)).keep (bAl (Below.refl _ _) (.cells #[.int .i64 (X : Int), .int .i64 (Y : Int)] 28)) |>.at (o := 0) (v := .int .i64 (x : Int)) rfl)
      clear r
      simp only at p0 p1 hX
      have i0 : (0 : Int) ≤ (k : Int) := by omega
      have i1 : (k : Int) < (len : Int) := by omega
      have B2 := hide (bAl (unhide hb) (.cells #[.int .i64 (X : Int), .int .i64 (Y : Int)] 28))
      by_cases hne : X = x
      · subst hne
        have q1 := unhide q0
        go_wp2_with fail
        exact ⟨⟨k + 1, S, D, by omega, by go_num, rfl, rfl, hS, hD, hide (by rw [unhide eT, sk_snoc, if_pos rfl]; exact unhide eS), hide (by rw [unhide eT, bl_snoc, if_pos rfl]; exact unhide eD), B2⟩, by simp [intOf]; omega⟩
      · obtain ⟨Z, hZ⟩ : ∃ Z, 1073741789 + X - x = Z := ⟨_, rfl⟩
        have hZc : (1073741789 : Int) + (X : Int) - (x : Int) = (Z : Int) := by omega
        have m1 := mul_ok hS hX (by omega)
        have m2 := mul_ok (show D < 2147483579 by omega) (show Z < 2147483579 by omega) (by omega)
        have q1 := unhide q0
        have dn : ¬ (X : Int) = (x : Int) := by omega
        have HZ := hide hZ
        clear hZ
        go_wp2_with fail
        have e1 : ((S * X % 1073741789 : Nat) : Int) = (S : Int) * (X : Int) % 1073741789 := by simp
        have e2 : ((D * Z % 1073741789 : Nat) : Int) = (D : Int) * (Z : Int) % 1073741789 := by simp
        refine ⟨⟨k + 1, S * X % 1073741789, D * Z % 1073741789, by omega, by go_num, by rw [e1], by rw [e2], Nat.mod_lt _ (by omega), Nat.mod_lt _ (by omega), hide ?_, hide ?_, B2⟩, by simp [intOf]; omega⟩
        · rw [unhide eT, sk_snoc, if_neg hne, ← unhide eS]
        · rw [unhide eT, bl_snoc, if_neg hne, ← unhide eD, unhide HZ]
    · obtain rfl : k = len := by omega
      have hV := hide (pw_lt D 1073741787 1073741789 (by omega))
      have hp := hide (iPower_any D 1073741787 1073741789 hD (by omega) (by omega) (by omega))
      have ew : Hid (wt 1073741789 1073741787 l x = S * pw D 1073741787 1073741789 % 1073741789) := by
        have e1 := unhide eS
        have e2 := unhide eD
        rw [unhide HL, List.take_length] at e1 e2
        exact hide (by rw [wt_eq, ← e1, ← e2])
      generalize pw D 1073741787 1073741789 = V at hV hp ew
      go_wp2_with fail
      refine (unhide hp _).mono ?_
      rintro e w' ⟨rfl, rfl⟩
      have m1 := mul_ok hS (unhide hV) (by omega)
      clear hp
      go_wp2_with fail
      go_ret
      refine ⟨?_, bTr (unhide BA) (unhide hb)⟩
      rw [unhide ew]
      have e1 : ((S * V % 1073741789 : Nat) : Int) = (S : Int) * (V : Int) % 1073741789 := by simp
      show Ending.returned (.int .i64 ((S : Int) * (V : Int) % 1073741789)) = .returned (.int .i64 ((S * V % 1073741789 : Nat) : Int))
      rw [e1]
end Go.Proofs.YtoakdagncfaplaaDoor.D

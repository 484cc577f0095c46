/- impl.Join. -/
import Derived.Test.YtoakdagncfaplaaDoorDJoH
import Derived.Test.YtoakdagncfaplaaDoorDSgn
import Derived.Test.YtoakdagncfaplaaDoorQKept
namespace Go.Proofs.YtoakdagncfaplaaDoor.D
set_option maxRecDepth 20000
open Go.RowKit

def nats (l : List (Int × Int)) : List (Nat × Nat) := l.map fun s => (s.1.toNat, s.2.toNat)
theorem shareB_iff {x y : Int} : shareB x y = true ↔ 1 ≤ x ∧ x < 1073741789 ∧ 0 ≤ y ∧ y < 1073741789 := by
  unfold shareB; simp only [Bool.and_eq_true, decide_eq_true_eq]; constructor
  · rintro ⟨⟨⟨a, b⟩, c⟩, d⟩; exact ⟨a, b, c, d⟩
  · rintro ⟨a, b, c, d⟩; exact ⟨⟨⟨a, b⟩, c⟩, d⟩
theorem OkTo.mem {l : List (Int × Int)} (h : OkTo l l.length) {s : Int × Int} (hs : s ∈ l) : 1 ≤ s.1 ∧ s.1 < 1073741789 ∧ 0 ≤ s.2 ∧ s.2 < 1073741789 := by
  obtain ⟨i, hi, rfl⟩ := List.getElem_of_mem hs
  exact shareB_iff.1 (h i hi hi).1
theorem ints_nats {l : List (Int × Int)} (h : OkTo l l.length) : ints (nats l) = l := by
  unfold ints nats
  rw [List.map_map]
  conv => rhs; rw [← List.map_id l]
  apply List.map_congr_left
  intro s hs
  have := h.mem hs
  simp only [Function.comp, id]
  rw [Int.toNat_of_nonneg (by omega), Int.toNat_of_nonneg (by omega)]
theorem nats_mem {l : List (Int × Int)} (h : OkTo l l.length) {s : Nat × Nat} (hs : s ∈ nats l) : s.1 < 1073741789 ∧ s.2 < 1073741789 := by
  obtain ⟨t, ht, rfl⟩ := List.mem_map.1 hs
  have := h.mem ht
  simp only
  omega
theorem nats_len (l : List (Int × Int)) : (nats l).length = l.length := by simp [nats]
theorem wt_lt (l : List (Nat × Nat)) (x : Nat) : wt 1073741789 1073741787 l x < 1073741789 := by rw [wt_eq]; exact Nat.mod_lt _ (by omega)
/-- What Join answers. -/
def JoinIs (l : List (Int × Int)) (r : Int) (ok : Bool) : Prop :=
  (ok = true ∧ (1 ≤ l.length ∧ l.length ≤ 20 ∧ OkTo l l.length) ∧ r = ((joinI 1073741789 1073741787 (nats l) (nats l) 0 : Nat) : Int)) ∨ (ok = false ∧ ¬ (1 ≤ l.length ∧ l.length ≤ 20 ∧ OkTo l l.length) ∧ r = 0)
theorem JoinIs.one {l : List (Int × Int)} {r q : Int} {ok fine : Bool} (h : JoinIs l r ok) (k : JoinIs l q fine) : r = q ∧ ok = fine := by
  rcases h with ⟨h1, h2, h3⟩ | ⟨h1, h2, h3⟩ <;> rcases k with ⟨k1, k2, k3⟩ | ⟨k1, k2, k3⟩
  · exact ⟨by rw [h3, k3], by rw [h1, k1]⟩
  · exact absurd h2 k2
  · exact absurd k2 h2
  · exact ⟨by rw [h3, k3], by rw [h1, k1]⟩

set_option maxHeartbeats 1000000 in
theorem iJoin_sum (b off len cap : Nat) (l : List (Int × Int)) (w : World) (hl : len = l.length) (h1 : 1 ≤ len) (hlen : len ≤ 20) (hc : len ≤ cap) (hs : ShRow w b off l) :
    Calls Tryd.prog 7 #[.slice (some ⟨b, off, none⟩) len cap] w fun e w' => (∃ (r : Int) (ok : Bool), e = .returned (.tuple #[.int .i64 r, .bool ok]) ∧ JoinIs l r ok) ∧ Below w.heap.size w w' := by
  have HS := hide hs
  have HL := hide hl
  clear hs hl
  go_enter Tryd.func7, Tryd.ntmps7
  go_wp2_with fail
  refine (goodShares_any b off len cap l _ (unhide HL) h1 hlen hc (unhide HS)).mono ?_
  rintro e w1 ⟨⟨t, rfl, ht⟩, hb1⟩
  have HT := hide ht
  have S1 := hide ((unhide HS).keep hb1)
  have B1 := hide hb1
  clear ht hb1
  cases t
  · go_wp2_with fail
    go_ret2
    refine ⟨⟨0, false, rfl, .inr ⟨rfl, fun h => ?_, rfl⟩⟩, unhide B1⟩
    have := (unhide HT).2 h.2.2
    cases this
  · have hok := hide ((unhide HT).1 rfl)
    have S2 := hide (show ShRow w1 b off (ints (nats l)) by rw [ints_nats (unhide hok)]; exact unhide S1)
    have HG := hide (fun s (hs : s ∈ nats l) => nats_mem (unhide hok) hs)
    have HM := hide (show len = (nats l).length by rw [nats_len]; exact unhide HL)
    have HJ := hide (show ∀ r : Int, r = ((joinI 1073741789 1073741787 (nats l) (nats l) 0 : Nat) : Int) → JoinIs l r true from fun r h => .inl ⟨rfl, ⟨by rw [← unhide HL]; exact h1, by rw [← unhide HL]; exact hlen, unhide hok⟩, h⟩)
    generalize nats l = m at S2 HG HM HJ
    go_wp2_with fail
    go_loopw [4, 12] (fun u i w' => ∃ (k S : Nat), k ≤ len ∧ i = .int .i64 k ∧ u = .int .i64 S ∧ S < 1073741789 ∧ Hid (S = joinI 1073741789 1073741787 m (m.take k) 0) ∧ Hid (Below w1.heap.size w1 w')) (fun _ i _ => len - (intOf i).toNat)
    case atStart => exact ⟨0, 0, Nat.zero_le _, rfl, rfl, by omega, hide rfl, hide (Below.refl _ _)⟩
    case round =>
      obtain ⟨k, S, hk, rfl, rfl, hS, eS, hb⟩ := hrel
      by_cases hlt : k < len
      · have hk' : k < m.length := by rw [← unhide HM]; exact hlt
        have r := (unhide S2).keep (unhide hb)
        have p0 := r.c0 k (by rw [ints_len]; exact hk')
        have p1 := r.c1 k (by rw [ints_len]; exact hk')
        rw [ints_get] at p0 p1
        have hX := unhide HG _ (List.getElem_mem hk')
        have eT := hide (take_snoc m k hk')
        generalize m[k] = s at p0 p1 hX eT
        obtain ⟨X, Y⟩ := s
        simp only at p0 p1 hX
        obtain ⟨hX, hY⟩ := hX
        have i0 : (0 : Int) ≤ (k : Int) := by omega
        have i1 : (k : Int) < (len : Int) := by omega
        have RS := hide (r.keep (bAl (Below.refl _ _) (.cells #[.int .i64 (X : Int), .int .i64 (Y : Int)] 28)))
        have BA := hide (bAl (unhide hb) (.cells #[.int .i64 (X : Int), .int .i64 (Y : Int)] 28))
        clear r
        have RA := hide (RowIs.new wr #[.int .i64 (X : Int), .int .i64 (Y : Int)] 28)
        go_wp2_with fail
        generalize wr.alloc (.cells #[.int .i64 (X : Int), .int .i64 (Y : Int)] 28) = W at RS BA RA ⊢
        have ne : Nonempty (Kept W) := ⟨⟨_, Below.refl _ _⟩⟩
        have c0 := fun k : Kept W => kept_cell (p := ⟨wr.heap.size, 0, none⟩) (unhide RA).lt ((unhide RA).at (o := 0) (v := .int .i64 (X : Int)) rfl) k
        have c1 := fun k : Kept W => kept_cell (p := ⟨wr.heap.size, 1, none⟩) (unhide RA).lt ((unhide RA).at (o := 1) (v := .int .i64 (Y : Int)) rfl) k
        have eV := hide (show ∀ T, T = wt 1073741789 1073741787 m X → (S + Y * T) % 1073741789 = joinI 1073741789 1073741787 m (m.take (k + 1)) 0 by
          intro T hT
          rw [unhide eT, joinI_snoc, ← unhide eS, hT])
        have qw := hide (fun k : Kept W => weightOf_any b off len cap m X Y k.w (unhide HM) hlen hX (fun s hs => (unhide HG s hs).1) ((unhide RS).keep k.h))
        have hV := wt_lt m X
        generalize wt 1073741789 1073741787 m X = V at hV eV qw
        have m1 := mul_ok hY hV (by omega)
        clear p0 p1
        refine wp_region_kept (by kernel_rfl) (by kernel_rfl) ?_
        repeat (first
          | go_big_quiet_step (first | (go_at_call 17; exact kept_call (unhide qw _)))
          | quiet_step (first | (go_at_call 17; exact kept_call (unhide qw _))))
        refine wpQuiet_nil ?_
        rintro _ ⟨q, rfl⟩
        clear ne c0 c1 qw
        obtain ⟨w2, hb2⟩ := q
        show Exit.inBlock _ _ _ _ w2
        have B2 := hide (bTr (unhide BA) hb2)
        clear hb2
        go_wp2_with fail
        have e1 : (((S + Y * V) % 1073741789 : Nat) : Int) = ((S : Int) + (Y : Int) * (V : Int)) % 1073741789 := by simp
        exact ⟨⟨k + 1, (S + Y * V) % 1073741789, by omega, by go_num, by rw [e1], Nat.mod_lt _ (by omega), hide (unhide eV V rfl), B2⟩, by simp [intOf]; omega⟩
      · obtain rfl : k = len := by omega
        go_wp2_with fail
        go_ret2
        refine ⟨⟨_, true, rfl, unhide HJ _ ?_⟩, bTr (unhide B1) (unhide hb)⟩
        have := unhide eS
        rw [unhide HM, List.take_length] at this
        rw [← this]
end Go.Proofs.YtoakdagncfaplaaDoor.D

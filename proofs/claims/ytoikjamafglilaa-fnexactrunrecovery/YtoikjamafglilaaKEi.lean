/- laws.eqIntS: rows of ints as answers. -/
import Derived.Test.YtoikjamafglilaaKMi
namespace Go.Proofs.Ytoikjamafglilaa
open Go.RowKit
abbrev intV (z : Int) : Value := .int .i64 z
theorem own_Int {w : World} {base : Nat} {v : Value} {l : List Int} (h : w.ownsRow base 3 1 v l.length (l.map intV)) : ∃ a cap, v = .slice a l.length cap ∧ (l = [] ∨ ∃ b, a = some ⟨b, 0, none⟩ ∧ b < w.heap.size ∧ ∀ i (hi : i < l.length), w.cell? ⟨b, i, none⟩ = some (.int .i64 l[i])) := by
  rcases h.2 with ⟨rfl, e⟩ | ⟨g, cap, cur, rfl, _, hh, _, _, hsz, htk⟩
  · have : l = [] := List.length_eq_zero_iff.1 e
    subst this
    exact ⟨none, 0, rfl, .inl rfl⟩
  · have hr : RowIs w g cur 3 := hh
    refine ⟨_, _, rfl, .inr ⟨g, rfl, hr.lt, fun i hi => ?_⟩⟩
    have hu : (l.map intV)[i]? = some (.int .i64 l[i]) := by simp [hi]
    rw [← htk, List.getElem?_take] at hu
    rw [hr.cell, ← Array.getElem?_toList]
    split at hu
    · exact hu
    · cases hu
set_option maxHeartbeats 1000000 in
theorem eqOwnInt {w : World} {b1 b2 : Nat} {v1 v2 : Value} {l : List Int} (h1 : w.ownsRow b1 3 1 v1 l.length (l.map intV)) (h2 : w.ownsRow b2 3 1 v2 l.length (l.map intV)) (hl : l.length ≤ 1000000) :
    Calls Try.prog 10 #[v1, v2] w fun e w' => e = .returned (.bool true) ∧ Below w.heap.size w w' := by
  obtain ⟨a1, c1, rfl, s1⟩ := own_Int h1
  obtain ⟨a2, c2, rfl, s2⟩ := own_Int h2
  have S1 := hide s1
  have S2 := hide s2
  clear s1 s2 h1 h2
  obtain ⟨n, hn⟩ : ∃ n, l.length = n := ⟨_, rfl⟩
  rw [hn] at hl ⊢
  have HN := hide hn
  clear hn
  go_enter Try.func10, Try.ntmps10
  go_wp2_with fail
  go_loopw [5] (fun i w' => ∃ k : Nat, k ≤ n ∧ i = .int .i64 k ∧ Below w.heap.size w w') (fun i _ => n - (intOf i).toNat)
  case atStart => exact ⟨0, Nat.zero_le _, rfl, Below.refl _ _⟩
  case round =>
    obtain ⟨k, hk, rfl, hbel⟩ := hrel
    by_cases hlt : k < n
    · have hk' : k < l.length := by rw [unhide HN]; exact hlt
      have hne : l ≠ [] := fun e => by rw [e] at hk'; simp at hk'
      obtain ⟨b, rfl, z1, r1⟩ := (unhide S1).resolve_left hne
      obtain ⟨b', rfl, z2, r2⟩ := (unhide S2).resolve_left hne
      have p1 := cellB hbel z1 (r1 k hk')
      have p2 := cellB hbel z2 (r2 k hk')
      replace z1 := Nat.lt_of_lt_of_le z1 hbel.size
      replace z2 := Nat.lt_of_lt_of_le z2 hbel.size
      clear r1 r2 hne
      generalize l[k] = A at p1 p2
      have i0 : (0 : Int) ≤ (k : Int) := by omega
      have i1 : (k : Int) < (n : Int) := by omega
      have e0 : (A != A) = false := by simp
      have ne : Nonempty (Kept wr) := ⟨⟨wr, Below.refl _ _⟩⟩
      have x0 := kept_cell z1 p1
      have y0 := kept_cell z2 p2
      go_wp2_with fail
      refine wp_region_kept (by kernel_rfl) (by kernel_rfl) ?_
      repeat (first | go_big_quiet_step (fail) | quiet_step (fail))
      refine wpQuiet_nil ?_
      rintro _ ⟨q, rfl⟩
      clear ne x0 y0
      obtain ⟨w3, hb3⟩ := q
      go_wp2_with fail
      exact ⟨⟨k + 1, by omega, by go_num, bTr hbel hb3⟩, by simp [intOf]; omega⟩
    · go_wp2_with fail
      go_ret
      exact ⟨rfl, hbel⟩
end Go.Proofs.Ytoikjamafglilaa

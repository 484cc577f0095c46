/- laws.zParts. -/
import Derived.Test.YtgfecakjdoccmaaQUnd2
namespace Go.Proofs.Ytgfecakjdoccmaa.C
open Go.RowKit

set_option maxHeartbeats 400000 in
theorem zParts_any (a b : Option Addr) (la ca lb cb : Nat) (l m : List PartT) (w : World) (hla : la ≤ maxLen) (hlb : lb ≤ maxLen) (ha : SlP w a la l) (hb : SlP w b lb m) :
    Calls Try.prog 12 #[.slice a la ca, .slice b lb cb] w fun e w' => e = .returned (.bool (decide (l = m))) ∧ Below w.heap.size w w' := by
  unfold maxLen at hla hlb
  by_cases hne : la = lb
  · have HA := hide ha
    have HB := hide hb
    clear ha hb
    subst hne
    have d1 : ((la : Int) != (la : Int)) = false := by simp
    go_enter Try.func12, Try.ntmps12
    go_wp2_with fail
    go_loopw [13] (fun i w' => ∃ (k : Nat), k ≤ la ∧ i = .int .i64 k ∧ Hid (Below w.heap.size w w') ∧ Hid (l.take k = m.take k)) (fun i _ => la - (intOf i).toNat)
    case atStart => exact ⟨0, Nat.zero_le _, rfl, hide (Below.refl _ _), hide (by simp)⟩
    case round =>
      obtain ⟨k, hk, rfl, hbel, hF⟩ := hrel
      by_cases hlt : k < la
      · obtain ⟨b1, o1, rfl, r1⟩ := ((unhide HA).keep (unhide hbel)).at hlt
        obtain ⟨b2, o2, rfl, r2⟩ := ((unhide HB).keep (unhide hbel)).at hlt
        have k1 : k < l.length := by rw [← (unhide HA).1]; exact hlt
        have k2 : k < m.length := by rw [← (unhide HB).1]; exact hlt
        have c0 := r1.c0 k k1
        have c1 := r1.c1 k k1
        have d0 := r2.c0 k k2
        have d1 := r2.c1 k k2
        have hst := hide (eq_takeP l m k k1 k2 (unhide hF))
        have hno := hide (show l[k] ≠ m[k] → l ≠ m by intro h e; subst e; exact h rfl)
        clear r1 r2
        generalize l[k] = A at c0 c1 hst hno
        generalize m[k] = D at d0 d1 hst hno
        have i0 : (0 : Int) ≤ (k : Int) := by omega
        have i1 : (k : Int) < (la : Int) := by omega
        by_cases hAD : A = D
        · subst hAD
          go_wp2_with fail
          go_quiet (fail)
          go_wp2_with fail
          exact ⟨⟨k + 1, by omega, by go_num, hide (below_drewN (unhide hbel) _), hide (unhide hst (by first | rfl | trivial))⟩, by simp [intOf]; omega⟩
        · have hpn := part_ne hAD
          obtain ⟨x, y⟩ := A
          obtain ⟨z, v⟩ := D
          simp only at c0 c1 d0 d1 hpn
          have HN := hide (unhide hno hAD)
          clear hAD hno
          by_cases hx : x.toList = z.toList
          · have hy : ¬ y.toList = v.toList := fun h => hpn ⟨hx, h⟩
            clear hpn
            go_wp2_with fail
            go_quiet (fail)
            go_wp2_with fail
            go_ret
            exact ⟨ret_bool (by rw [decide_eq_false (unhide HN)]), below_drewN (unhide hbel) _⟩
          · clear hpn
            go_wp2_with fail
            go_quiet (fail)
            go_wp2_with fail
            go_ret
            exact ⟨ret_bool (by rw [decide_eq_false (unhide HN)]), below_drewN (unhide hbel) _⟩
      · have e : k = l.length := by rw [← (unhide HA).1]; omega
        have e2 : Hid (l = m) := by
          have := unhide hF
          rw [e, List.take_length, ← (unhide HA).1, (unhide HB).1, List.take_length] at this
          exact hide this
        go_wp2_with fail
        go_ret
        exact ⟨ret_bool (by rw [decide_eq_true (unhide e2)]), unhide hbel⟩
  · have d0 := hide (show decide (l = m) = false from decide_eq_false (fun h => hne (by rw [ha.1, hb.1, h])))
    clear ha hb
    generalize decide (l = m) = T at d0
    have d1 : ((la : Int) != (lb : Int)) = true := by simp; omega
    go_enter Try.func12, Try.ntmps12
    go_wp2_with fail
    go_ret
    exact ⟨ret_bool (unhide d0).symm, Below.refl _ _⟩
end Go.Proofs.Ytgfecakjdoccmaa.C

/- RSpP, RSpT, one behind the other. -/
import Derived.Test.YtdflnjjomljgmaaGreatDoorJ33
/- spec.l6Param, spec.l6GoodTerm. -/
namespace Go.Proofs.YtdflnjjomljgmaaGreatDoor.V
open Go.RowKit

def parV : Option ParamT → Value
  | none => .agg #[.string empB, .int .i64 0]
  | some p => .agg #[.string p.f0, .int .i64 p.f1]

theorem strEq_iff {a b : ByteArray} : (a.toList == b.toList) = true ↔ a = b := by
  rw [beq_iff_eq, ByteArray.toList_eq, ByteArray.toList_eq]
  exact ⟨fun h => Go.WideShapes.bytes_inj h, fun h => by rw [h]⟩

set_option maxHeartbeats 400000 in
theorem l6Param_any (a : Option Addr) (len cap : Nat) (l : List ParamT) (s : ByteArray) (w : World) (hl : len ≤ 1048576) (hs : SlParam w a len l) :
    Calls Tryz.prog 69 #[.slice a len cap, .string s] w fun e w' => e = .returned (.tuple #[parV (findP l s), .bool (findP l s).isSome]) ∧ Below w.heap.size w w' := by
  have HS := hide hs
  clear hs
  have B0 := hide (bAl (Below.refl w.heap.size w) (.cells #[.string empB, .int .i64 0] 62))
  have R0 := hide (RowIs.new w #[.string empB, .int .i64 0] 62)
  go_enter Tryz.func69, Tryz.ntmps69
  go_wp2_with fail
  go_loopw [10] (fun i w' => ∃ k : Nat, k ≤ len ∧ i = .int .i64 k ∧ Hid (Below w.heap.size w w') ∧ Hid (RowIs w' w.heap.size #[.string empB, .int .i64 0] 62) ∧ Hid (∀ i (hi : i < l.length), i < k → l[i].f0 ≠ s)) (fun i _ => len - (Go.RowKit.intOf i).toNat)
  case atStart => exact ⟨0, Nat.zero_le _, rfl, B0, R0, hide (fun _ _ h => absurd h (Nat.not_lt_zero _))⟩
  case round =>
    clear B0 R0
    obtain ⟨k, hk, rfl, hb, hr, hN⟩ := hrel
    have zr := (unhide hr).lt
    have r0 := (unhide hr).at (o := 0) (v := .string empB) rfl
    have r1 := (unhide hr).at (o := 1) (v := .int .i64 0) rfl
    have g0 := (unhide hr).froz 0
    have g1 := (unhide hr).froz 1
    by_cases hlt : k < len
    · have hk' : k < l.length := by rw [← (unhide HS).1]; exact hlt
      obtain ⟨b, off, rfl, hrow⟩ := ((unhide HS).keep (unhide hb)).at hlt
      have c0 := hrow.c0 k hk'
      have c1 := hrow.c1 k hk'
      have zk := hrow.z
      have eY : Hid (l[k].f0 = s → findP l s = some l[k]) := hide (fun e => findP_at hk' (unhide hN) e)
      have eN : Hid (l[k].f0 ≠ s → ∀ i (hi : i < l.length), i < k + 1 → l[i].f0 ≠ s) := hide (fun e i hi h => by
        rcases Nat.lt_or_ge i k with h2 | h2
        · exact unhide hN i hi h2
        · obtain rfl : i = k := by omega
          exact e)
      clear hrow
      generalize l[k] = A at c0 c1 eY eN
      have nb : wr.heap.size ≠ w.heap.size := by omega
      have nb' : w.heap.size ≠ wr.heap.size := by omega
      by_cases e : A.f0 = s
      · have E := hide (unhide eY e)
        subst e
        clear eY eN
        go_wp2_with fail
        have rr := (((unhide hr).set 0 (.string A.f0)).set 1 (.int .i64 A.f1)).keep (bAl (Below.refl _ _) (.cells #[.string A.f0, .int .i64 A.f1] 62))
        have x0 := rr.at (o := 0) (v := .string A.f0) rfl
        have x1 := rr.at (o := 1) (v := .int .i64 A.f1) rfl
        refine bodyPost_ret (v := .tuple #[.agg #[.string A.f0, .int .i64 A.f1], .bool true]) (by simp [results, Tryz.results69, go_sem, x0, x1]) rfl ⟨by rw [unhide E]; rfl, ?_⟩
        exact bAl (((unhide hb).setCell (Nat.le_refl _) _).setCell (Nat.le_refl _) _) _
      · have E := hide (unhide eN e)
        have e' : (A.f0.toList == s.toList) = false := by
          cases h : A.f0.toList == s.toList
          · rfl
          · exact absurd (strEq_iff.1 h) e
        clear eY eN
        go_wp2_with fail
        exact ⟨⟨k + 1, by omega, by go_num, hide (bAl (unhide hb) _), hide ((unhide hr).keep (bAl (Below.refl _ _) _)), E⟩, by simp [Go.RowKit.intOf]; omega⟩
    · have E : Hid (findP l s = none) := hide (findP_none (fun i hi => unhide hN i hi (by have := (unhide HS).1; omega)))
      go_wp2_with fail
      have rr := ((unhide hr).set 0 (.string empB)).set 1 (.int .i64 0)
      have x0 := rr.at (o := 0) (v := .string empB) rfl
      have x1 := rr.at (o := 1) (v := .int .i64 0) rfl
      refine bodyPost_ret (v := .tuple #[.agg #[.string empB, .int .i64 0], .bool false]) (by simp [results, Tryz.results69, go_sem, x0, x1]) rfl ⟨by rw [unhide E]; rfl, ?_⟩
      exact ((unhide hb).setCell (Nat.le_refl _) _).setCell (Nat.le_refl _) _
end Go.Proofs.YtdflnjjomljgmaaGreatDoor.V
/- spec.l6GoodTerm. -/
namespace Go.Proofs.YtdflnjjomljgmaaGreatDoor.V
open Go.RowKit

abbrev tAgg (t : CavTermT) : Value := .agg #[.string t.f0, .int .i64 t.f1, .string t.f2, .int .i64 t.f3, .int .i64 t.f4, .string t.f5, .string t.f6]

theorem isEmp : empB.toList.isEmpty = true := by rw [ByteArray.toList_eq]; rfl
theorem notEmp {a : ByteArray} (h : ¬ a = empB) : a.toList.isEmpty = false := by
  cases e : a.toList.isEmpty
  · rfl
  · exact absurd (strEq_iff.1 (by rw [List.isEmpty_iff.1 e, ByteArray.toList_eq]; rfl)) h

end Go.Proofs.YtdflnjjomljgmaaGreatDoor.V

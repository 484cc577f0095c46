/- spec.l4Vector, spec.VectorOf. -/
import Derived.Test.YtpdnimchmgbijaaQSt
import Derived.Test.YtpdnimchmgbijaaQChH
import Derived.OwnWalk
import Derived.Maps.AppendAt
namespace Go.Proofs.Ytpdnimchmgbijaa
open Go.RowKit

/-- The greatest Time of Who. -/
def mostStep (who m : Int) (c : DcT) : Int := if c.o = who ∧ m < c.t then c.t else m
def mostTo (l : List DcT) (who : Int) (k : Nat) : Int := (l.take k).foldl (mostStep who) 0
def most (l : List DcT) (who : Int) : Int := l.foldl (mostStep who) 0
theorem mostTo_succ (l : List DcT) (who : Int) (k : Nat) (h : k < l.length) : mostTo l who (k + 1) = mostStep who (mostTo l who k) l[k] := by
  unfold mostTo
  rw [List.take_succ_eq_append_getElem h, List.foldl_append]; rfl
theorem mostTo_all (l : List DcT) (who : Int) : mostTo l who l.length = most l who := by unfold mostTo most; rw [List.take_length]
/-- The vector's stamps of the Whos below k. -/
def vecTo (l : List DcT) : Nat → List (Int × Int)
  | 0 => []
  | k + 1 => vecTo l k ++ if 0 < most l (k : Int) then [(most l (k : Int), (k : Int))] else []
theorem vecTo_len (l : List DcT) : ∀ k, (vecTo l k).length ≤ k
  | 0 => Nat.le_refl _
  | k + 1 => by
    have := vecTo_len l k
    unfold vecTo
    rw [List.length_append]
    split <;> simp <;> omega

set_option maxRecDepth 100000 in
set_option maxHeartbeats 2000000 in
theorem l4Vector_any (a : Option Addr) (len cap : Nat) (l : List DcT) (w : World) (hl : len ≤ maxLen) (hs : SlC w a len l) :
    Calls Try.prog 15 #[.slice a len cap] w fun e w' => (∃ v, e = .returned v ∧ w'.ownsRow w.heap.size 43 2 v (vecTo l 100).length (stsV (vecTo l 100))) ∧ Below w.heap.size w w' := by
  unfold maxLen at hl
  obtain ⟨i0, hi, hz0, hz1, hz2⟩ := info_parts info_stamp
  have HS := hide hs
  clear hs
  go_enter Try.func15, Try.ntmps15
  go_wp2_with fail
  go_loopw [3, 4] (fun v i w' => ∃ k : Nat, k ≤ 100 ∧ i = .int .i64 k ∧ Hid (w'.ownsRow w.heap.size 43 2 v (vecTo l k).length (stsV (vecTo l k))) ∧ Hid (Below w.heap.size w w')) (fun _ i _ => 100 - (intOf i).toNat)
  case atStart => exact ⟨0, by omega, rfl, hide (World.ownsRow_nil _ _ _ _), hide (Below.refl _ _)⟩
  case round =>
    obtain ⟨k, hk, rfl, hO, hB⟩ := hrel
    by_cases hlt : k < 100
    · go_wp2_with fail
      go_loopw [5, 14] (fun m i w' => ∃ j : Nat, j ≤ len ∧ i = .int .i64 j ∧ m = .int .i64 (mostTo l (k : Int) j) ∧ Hid (Below wr.heap.size wr w')) (fun _ i _ => len - (intOf i).toNat)
      case atStart => exact ⟨0, Nat.zero_le _, rfl, rfl, hide (Below.refl _ _)⟩
      case round =>
        obtain ⟨j, hj, rfl, rfl, hb⟩ := hrel
        by_cases hjl : j < len
        · obtain ⟨b, off, rfl, hrow⟩ := ((unhide HS).keep (bTr (unhide hB) (unhide hb))).at hjl
          have hj' : j < l.length := by rw [← (unhide HS).1]; exact hjl
          have c0 := hrow.c0 j hj'
          have c1 := hrow.c1 j hj'
          have c2 := hrow.c2 j hj'
          have c3 := hrow.c3 j hj'
          have c4 := hrow.c4 j hj'
          have c5 := hrow.c5 j hj'
          have c6 := hrow.c6 j hj'
          have c7 := hrow.c7 j hj'
          have c8 := hrow.c8 j hj'
          have st := hide (mostTo_succ l (k : Int) j hj')
          clear hrow
          generalize l[j] = A at c0 c1 c2 c3 c4 c5 c6 c7 c8 st
          generalize mostTo l (k : Int) j = M at st
          unfold mostStep at st
          by_cases e1 : A.o = (k : Int)
          · by_cases e2 : M < A.t
            · replace st := hide (show mostTo l (k : Int) (j + 1) = A.t by rw [unhide st, if_pos ⟨e1, e2⟩])
              go_wp2_with fail
              exact ⟨⟨j + 1, by omega, by go_num, by rw [unhide st], hide ((unhide hb).alloc (unhide hb).size _)⟩, by simp [intOf]; omega⟩
            · replace st := hide (show mostTo l (k : Int) (j + 1) = M by rw [unhide st, if_neg (fun h => e2 h.2)])
              go_wp2_with fail
              exact ⟨⟨j + 1, by omega, by go_num, by rw [unhide st], hide ((unhide hb).alloc (unhide hb).size _)⟩, by simp [intOf]; omega⟩
          · replace st := hide (show mostTo l (k : Int) (j + 1) = M by rw [unhide st, if_neg (fun h => e1 h.1)])
            have t1 : (A.o == (k : Int)) = false := by simpa using e1
            go_wp2_with fail
            exact ⟨⟨j + 1, by omega, by go_num, by rw [unhide st], hide ((unhide hb).alloc (unhide hb).size _)⟩, by simp [intOf]; omega⟩
        · have ej : j = l.length := by rw [← (unhide HS).1]; omega
          have eM : mostTo l (k : Int) j = most l (k : Int) := by rw [ej, mostTo_all]
          have eV := hide (show vecTo l (k + 1) = vecTo l k ++ if 0 < most l (k : Int) then [(most l (k : Int), (k : Int))] else [] from rfl)
          have O2 := hide (own_keep (unhide hO) (unhide hb))
          have B2 := hide (bTr (unhide hB) (unhide hb))
          have hln := vecTo_len l k
          rw [eM]
          clear ej eM hO hB hb
          generalize most l (k : Int) = M at eV
          by_cases hp : 0 < M
          · replace eV := hide (show vecTo l (k + 1) = vecTo l k ++ [(M, (k : Int))] by rw [unhide eV, if_pos hp])
            generalize hV : vecTo l k = V at O2 hln eV
            clear hV
            go_wp2_with (at_builtin; refine wpList_append_own _ rfl _ _ 41 rfl w.heap.size 43 i0 _ 2 16 Try.underlying41 hi hz0 hz1 hz2 rfl (by decide) _ _ _ rfl ((unhide O2).alloc _) ⟨_, 0, none⟩ 1 1 [.int .i64 M, .int .i64 (k : Int)] rfl rfl (cell_two_at _ _ rfl _ _ _) (fun x hx => by simp at hx; rcases hx with rfl | rfl <;> rfl) (by unfold maxLen; omega) (by omega) (by have := (unhide B2).size; simp; omega) ?_; intro u5 x5 hown5 hgrow5 _; have G5 := hide hown5; have B5 := hide (below_append (unhide B2) (Nat.le_refl _) (unhide O2) hgrow5); clear hown5 hgrow5)
            exact ⟨⟨k + 1, by omega, by go_num, hide (by rw [unhide eV, stsV_snoc, List.length_append]; exact unhide G5), B5⟩, by simp [intOf]; omega⟩
          · replace eV := hide (show vecTo l (k + 1) = vecTo l k by rw [unhide eV, if_neg hp, List.append_nil])
            go_wp2_with fail
            exact ⟨⟨k + 1, by omega, by go_num, hide (by rw [unhide eV]; exact unhide O2), B2⟩, by simp [intOf]; omega⟩
    · obtain rfl : k = 100 := by omega
      go_wp2_with fail
      go_ret
      exact ⟨⟨_, rfl, unhide hO⟩, unhide hB⟩
end Go.Proofs.Ytpdnimchmgbijaa

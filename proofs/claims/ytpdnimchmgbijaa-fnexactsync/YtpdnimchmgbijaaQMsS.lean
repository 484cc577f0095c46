/- spec.l4Missing, spec.Missing; impl.Missing. -/
import Derived.Test.YtpdnimchmgbijaaQGv
import Derived.Test.YtpdnimchmgbijaaQChH
namespace Go.Proofs.Ytpdnimchmgbijaa
open Go.RowKit

def knB (vec : List (Int × Int)) (c : DcT) : Bool := vec.any fun v => v.2 == c.o && decide (c.t ≤ v.1)
def msg (l : List DcT) (vec : List (Int × Int)) : List DcT := l.filter fun c => !knB vec c
theorem knB_snoc (vec : List (Int × Int)) (c : DcT) (k : Nat) (h : k < vec.length) : knB (vec.take (k + 1)) c = (knB (vec.take k) c || (vec[k].2 == c.o && decide (c.t ≤ vec[k].1))) := by
  unfold knB
  rw [List.take_succ_eq_append_getElem h, List.any_append]; simp
theorem msg_snoc (l : List DcT) (vec : List (Int × Int)) (k : Nat) (h : k < l.length) : msg (l.take (k + 1)) vec = msg (l.take k) vec ++ if knB vec l[k] then [] else [l[k]] := by
  unfold msg
  rw [List.take_succ_eq_append_getElem h, List.filter_append]
  cases hp : knB vec l[k] <;> simp [List.filter, hp]

set_option maxRecDepth 100000 in
set_option maxHeartbeats 2000000 in
theorem l4Missing_any (a : Option Addr) (len cap : Nat) (l : List DcT) (a2 : Option Addr) (len2 cap2 : Nat) (vec : List (Int × Int)) (w : World) (hl : len ≤ 1000000) (hs : SlC w a len l) (hl2 : len2 ≤ maxLen) (hs2 : SlSt w a2 len2 vec) :
    Calls Try.prog 14 #[.slice a len cap, .slice a2 len2 cap2] w fun e w' => (∃ v, e = .returned v ∧ w'.ownsRow w.heap.size 46 9 v (msg l vec).length (dcsV (msg l vec))) ∧ Below w.heap.size w w' := by
  unfold maxLen at hl2
  obtain ⟨i0, hi, hz0, hz1, hz2⟩ := info_parts info_change
  have HS := hide hs
  have HS2 := hide hs2
  have hll := hide hs.1
  have hll2 := hide hs2.1
  clear hs hs2
  go_enter Try.func14, Try.ntmps14
  go_wp2_with fail
  go_loopw [5, 13] (fun v i w' => ∃ k : Nat, k ≤ len ∧ i = .int .i64 k ∧ Hid (w'.ownsRow w.heap.size 46 9 v (msg (l.take k) vec).length (dcsV (msg (l.take k) vec))) ∧ Hid (Below w.heap.size w w')) (fun _ i _ => len - (Go.RowKit.intOf i).toNat)
  case atStart => exact ⟨0, Nat.zero_le _, rfl, hide (World.ownsRow_nil _ _ _ _), hide (Below.refl _ _)⟩
  case round =>
    obtain ⟨k, hk, rfl, hO, hB⟩ := hrel
    by_cases hlt : k < len
    · have hk' : k < l.length := by rw [← unhide hll]; exact hlt
      obtain ⟨g, off, rfl, hr⟩ := ((unhide HS).keep (unhide hB)).at hlt
      have c0 := hr.c0 k hk'
      have c1 := hr.c1 k hk'
      have c2 := hr.c2 k hk'
      have c3 := hr.c3 k hk'
      have c4 := hr.c4 k hk'
      have c5 := hr.c5 k hk'
      have c6 := hr.c6 k hk'
      have c7 := hr.c7 k hk'
      have c8 := hr.c8 k hk'
      have eP := hide (msg_snoc l vec k hk')
      have lnP : (msg (l.take k) vec).length ≤ k := Nat.le_trans (List.length_filter_le _ _) (by rw [List.length_take]; omega)
      generalize msg (l.take k) vec = V at hO eP lnP
      clear hr
      generalize l[k] = A at c0 c1 c2 c3 c4 c5 c6 c7 c8 eP
      obtain ⟨W1, hW1⟩ : ∃ W', W' = wr.alloc (.cells #[.int .i64 A.t, .int .i64 A.o, .int .i64 A.k, .int .i64 A.u, .int .i64 A.p, .string A.pa, .string A.pt, .string A.a, .string A.x] 46) := ⟨_, rfl⟩
      have RB := hide (show RowIs W1 wr.heap.size #[.int .i64 A.t, .int .i64 A.o, .int .i64 A.k, .int .i64 A.u, .int .i64 A.p, .string A.pa, .string A.pt, .string A.a, .string A.x] 46 by rw [hW1]; exact RowIs.new _ _ _)
      have BA := show Below wr.heap.size wr W1 by rw [hW1]; exact bAl (Below.refl _ _) _
      have B1 := hide (bTr (unhide hB) BA)
      have O1 := hide (own_keep (unhide hO) BA)
      have HW1 := hide hW1
      clear hW1 BA hO hB
      go_wp2_with fail
      rw [← unhide HW1]
      clear HW1 c0 c1 c2 c3 c4 c5 c6 c7 c8
      go_loopw [8, 19] (fun kn i w' => ∃ j : Nat, j ≤ len2 ∧ i = .int .i64 j ∧ kn = .bool (knB (vec.take j) A) ∧ Hid (Below W1.heap.size W1 w')) (fun _ i _ => len2 - (Go.RowKit.intOf i).toNat)
      case atStart => exact ⟨0, Nat.zero_le _, rfl, rfl, hide (Below.refl _ _)⟩
      case round =>
        obtain ⟨j, hj, rfl, rfl, hb⟩ := hrel
        by_cases hjl : j < len2
        · have hj' : j < vec.length := by rw [← unhide hll2]; exact hjl
          obtain ⟨g2, off2, rfl, hr2⟩ := ((unhide HS2).keep (bTr (unhide B1) (unhide hb))).at hjl
          have s0 := hr2.c0 j hj'
          have s1 := hr2.c1 j hj'
          have d0 := ((unhide RB).keep (unhide hb)).at (o := 0) (v := .int .i64 A.t) rfl
          have d1 := ((unhide RB).keep (unhide hb)).at (o := 1) (v := .int .i64 A.o) rfl
          have dz := ((unhide RB).keep (unhide hb)).lt
          have st := hide (knB_snoc vec A j hj')
          clear hr2
          generalize vec[j] = S at s0 s1 st
          generalize knB (vec.take j) A = K at st
          cases K
          · by_cases e1 : S.2 = A.o
            · have t1 : (S.2 == A.o) = true := by simpa using e1
              replace st := hide (show knB (vec.take (j + 1)) A = decide (A.t ≤ S.1) by rw [unhide st, t1]; rfl)
              go_wp2_with fail
              exact ⟨⟨j + 1, by omega, by go_num, by rw [unhide st], hide ((unhide hb).alloc (unhide hb).size _)⟩, by simp [Go.RowKit.intOf]; omega⟩
            · have t1 : (S.2 == A.o) = false := by simpa using e1
              replace st := hide (show knB (vec.take (j + 1)) A = false by rw [unhide st, t1]; rfl)
              go_wp2_with fail
              exact ⟨⟨j + 1, by omega, by go_num, by rw [unhide st], hide ((unhide hb).alloc (unhide hb).size _)⟩, by simp [Go.RowKit.intOf]; omega⟩
          · replace st := hide (show knB (vec.take (j + 1)) A = true by rw [unhide st]; rfl)
            go_wp2_with fail
            exact ⟨⟨j + 1, by omega, by go_num, by rw [unhide st], hide ((unhide hb).alloc (unhide hb).size _)⟩, by simp [Go.RowKit.intOf]; omega⟩
        · have ej : j = vec.length := by rw [← unhide hll2]; omega
          have eK : knB (vec.take j) A = knB vec A := by rw [ej, List.take_length]
          rw [eK]
          have R4 := (unhide RB).keep (unhide hb)
          have O4 := hide (own_keep (unhide O1) (unhide hb))
          have B5 := hide (bTr (unhide B1) (unhide hb))
          have d0 := R4.at (o := 0) (v := .int .i64 A.t) rfl
          have d1 := R4.at (o := 1) (v := .int .i64 A.o) rfl
          have d2 := R4.at (o := 2) (v := .int .i64 A.k) rfl
          have d3 := R4.at (o := 3) (v := .int .i64 A.u) rfl
          have d4 := R4.at (o := 4) (v := .int .i64 A.p) rfl
          have d5 := R4.at (o := 5) (v := .string A.pa) rfl
          have d6 := R4.at (o := 6) (v := .string A.pt) rfl
          have d7 := R4.at (o := 7) (v := .string A.a) rfl
          have d8 := R4.at (o := 8) (v := .string A.x) rfl
          clear R4 RB ej eK hb O1 B1
          generalize knB vec A = K at eP
          cases K
          · replace eP := hide ((unhide eP).trans (show _ = V ++ [A] from rfl))
            go_wp2_with (at_builtin; refine wpList_append_own _ rfl _ _ 24 rfl w.heap.size 46 i0 _ 9 104 Try.underlying24 hi hz0 hz1 hz2 rfl (by decide) _ _ _ rfl ((unhide O4).alloc _) ⟨_, 0, none⟩ 1 1 (dcL A) rfl rfl (cell_new_at _ _ rfl _ _ _ rfl) (dcL_one A) (by unfold maxLen; omega) (by omega) (by have := (unhide B5).size; simp; omega) ?_; intro u5 x5 hown5 hgrow5 _; have G6 := hide hown5; have B6 := hide (below_append (unhide B5) (Nat.le_refl _) (unhide O4) hgrow5); clear hown5 hgrow5)
            exact ⟨⟨k + 1, by omega, by go_num, hide (by rw [unhide eP, dcsV_snoc, List.length_append]; exact unhide G6), B6⟩, by simp [Go.RowKit.intOf]; omega⟩
          · replace eP := hide ((unhide eP).trans (show _ = V from List.append_nil _))
            go_wp2_with fail
            exact ⟨⟨k + 1, by omega, by go_num, hide (by rw [unhide eP]; exact unhide O4), B5⟩, by simp [Go.RowKit.intOf]; omega⟩
    · have e : k = l.length := by rw [← unhide hll]; omega
      have O9 := hide (show wr.ownsRow w.heap.size 46 9 _ (msg l vec).length (dcsV (msg l vec)) by have := unhide hO; rw [e, List.take_length] at this; exact this)
      clear e
      go_wp2_with fail
      go_ret
      exact ⟨⟨_, rfl, unhide O9⟩, unhide hB⟩

def MsG (l : List DcT) (vec : List (Int × Int)) : Prop := LogG l ∧ VcG vec
def MP (l : List DcT) (vec : List (Int × Int)) (r : List DcT) : Prop := (¬ MsG l vec ∧ r = []) ∨ (MsG l vec ∧ r = msg l vec)
theorem MP.uniq {l : List DcT} {vec : List (Int × Int)} {r r' : List DcT} (h : MP l vec r) (h' : MP l vec r') : r = r' := by
  rcases h with ⟨n, e⟩ | ⟨g, e⟩ <;> rcases h' with ⟨n', e'⟩ | ⟨g', e'⟩
  · exact e.trans e'.symm
  · exact absurd g' n
  · exact absurd g n'
  · exact e.trans e'.symm
theorem MP.len {l : List DcT} {vec : List (Int × Int)} {r : List DcT} (h : MP l vec r) : r.length ≤ 1000 := by
  rcases h with ⟨_, e⟩ | ⟨g, e⟩
  · rw [e]; exact Nat.zero_le _
  · rw [e]
    have h1 := g.1.1
    have : (msg l vec).length ≤ l.length := List.length_filter_le _ _
    omega

end Go.Proofs.Ytpdnimchmgbijaa

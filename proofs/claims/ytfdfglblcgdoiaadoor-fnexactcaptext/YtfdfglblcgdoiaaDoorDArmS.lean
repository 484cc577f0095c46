/- spec.l2Letters, l2Armor, Armor. -/
import Derived.Test.YtfdfglblcgdoiaaDoorDByt
import Derived.Test.YtfdfglblcgdoiaaDoorDArmP
import Derived.Maps.AppendAt
import Derived.Lib.SlBytesRow
import Derived.Lib.BufferRead
namespace Go.Proofs.YtfdfglblcgdoiaaDoor.D
set_option maxRecDepth 20000
open Go.RowKit

theorem own_snocU {w' : World} {base : Nat} {v' : Value} {pre : List UInt8} {c : UInt8} (h : w'.ownsRow base 5 1 v' (pre.length + 1) (pre.map byteV ++ [byteV c])) : w'.ownsRow base 5 1 v' (pre ++ [c]).length ((pre ++ [c]).map byteV) := by
  simpa using h
theorem own_dr {w : World} {base : Nat} {v : Value} {n : Nat} {xs : List Value} (h : w.ownsRow base 5 1 v n xs) (k : Nat) : (w.drewN k).ownsRow base 5 1 v n xs := h
theorem conv_own {w : World} {base : Nat} {v : Value} {l : List UInt8} (h : w.ownsRow base 5 1 v l.length (l.map byteV)) :
    (convert 23 9 v).run Tryd.prog w = .ok (.string ⟨l.toArray⟩) w := by
  rcases h.2 with ⟨rfl, e⟩ | ⟨g, cap, cur, rfl, _, hh, _, _, hsz, htk⟩
  · have : l = [] := List.length_eq_zero_iff.1 e
    subst this
    exact Go.Lib.run_convert_nil_bytes w 23 9 5 0 Tryd.underlying23 Tryd.underlying5 Tryd.underlying9
  · have := Go.Lib.run_convert_whole (P := Tryd.prog) w 23 5 9 Tryd.underlying23 Tryd.underlying5 Tryd.underlying9 g 0 ⟨l.toArray⟩ (fun i hi => by
      have hi' : i < l.length := hi
      have hr : RowIs w g cur 5 := hh
      have f0 : (l.map byteV)[i]? = some (.int .u8 (l[i].toNat : Int)) := by simp [byteV, hi']
      rw [← htk, List.getElem?_take] at f0
      rw [Nat.zero_add, hr.cell, ← Array.getElem?_toList]
      split at f0
      · exact f0
      · cases f0) cap
    exact this

def letS : ByteArray := ⟨#[48, 49, 50, 51, 52, 53, 54, 55, 56, 57, 97, 98, 99, 100, 101, 102, 103, 104, 105, 106, 107, 108, 109, 110, 111, 112, 113, 114, 115, 116, 117, 118]⟩
theorem letS_get (n : Nat) (h : n < 32) : letS[n]'(by exact h) = letOf n := by
  have key : ∀ n : Fin 32, letS[n.1]'(n.2) = letOf n.1 := by decide
  exact key ⟨n, h⟩
/-- 'armorLetters[n]'. -/
theorem run_letter (n : Nat) (h : n < 32) (w : World) : (Instr.index 9 (.string letS) (.int .i64 (n : Int))).run Tryd.prog w = .ok (byteV (letOf n)) w := by
  rw [run_index_string (P := Tryd.prog) w 9 letS .i64 (n : Int) Tryd.underlying9, dif_pos ⟨by omega, by show (n : Int) < (32 : Int); omega⟩]
  show Result.ok (Value.int .u8 ((letS[n]'(by exact h)).toNat : Int)) w = _
  rw [letS_get n h]; rfl
theorem l2Letters_any (w : World) : Calls Tryd.prog 29 #[] w fun e w' => e = .returned (.string letS) ∧ w = w' := by
  go_enter Tryd.func29, Tryd.ntmps29
  go_wp2_with fail
  go_ret
  exact ⟨rfl, rfl⟩
theorem getD_at (l : List UInt8) (i : Nat) (h : i < l.length) : l.getD i 0 = l[i] := by
  rw [List.getD_eq_getElem?_getD, List.getElem?_eq_getElem h]; rfl
theorem pre_step (l : List UInt8) (b t : Nat) : pre l b (t + 1) = pre l b t * 2 + bit l (b + t) := by simp only [pre]; omega
theorem arm_pre (l : List UInt8) (j : Nat) (h : 5 * j < 8 * l.length) : (arm l).take (j + 1) = (arm l).take j ++ [letOf (five l (5 * j))] := by
  have hj : j < (arm l).length := by rw [arm_len]; exact (many_lt _ _).2 h
  rw [List.take_succ_eq_append_getElem hj, arm_get]

set_option maxHeartbeats 2000000 in
theorem l2Armor_any (a : Option Addr) (len cap : Nat) (l : List UInt8) (w : World) (hl : len ≤ 20000) (hs : SlB w w.heap.size a len l) :
    Calls Tryd.prog 13 #[.slice a len cap] w fun e w' => e = .returned (.string ⟨(arm l).toArray⟩) ∧ Below w.heap.size w w' := by
  obtain ⟨i0, hi, hz0, hz1, hz2⟩ := info_parts info_u8
  have HS := hide hs
  have hll := hide hs.1
  clear hs
  go_enter Tryd.func13, Tryd.ntmps13
  go_wp2_with fail
  go_loopw [3, 4] (fun v i w' => ∃ (j : Nat), j ≤ many len ∧ i = .int .i64 ((5 * j : Nat) : Int) ∧ Hid (w'.ownsRow w.heap.size 5 1 v ((arm l).take j).length (((arm l).take j).map byteV)) ∧ Hid (Below w.heap.size w w')) (fun _ i _ => 5 * many len - (intOf i).toNat)
  case atStart => exact ⟨0, Nat.zero_le _, rfl, hide (World.ownsRow_nil _ _ _ _), hide (Below.refl _ _)⟩
  case round =>
    obtain ⟨j, hj, rfl, hown, hb⟩ := hrel
    have hm : many len ≤ 32001 := by unfold many; omega
    by_cases hlt : 5 * j < 8 * len
    · have hj1 : j < many len := (many_lt _ _).2 hlt
      have hst := hide (arm_pre l j (by rw [← unhide hll]; exact hlt))
      go_wp2_with fail
      go_loop [5, 6] (fun n k => ∃ t : Nat, t ≤ 5 ∧ n = .int .i64 (pre l (5 * j) t : Nat) ∧ k = .int .i64 ((5 * j + t : Nat) : Int)) (fun _ k => 5 * j + 5 - (intOf k).toNat)
      case atStart => exact ⟨0, by omega, rfl, rfl⟩
      case round =>
        obtain ⟨t, ht, rfl, rfl⟩ := hrel
        have hp := pre_lt l (5 * j) t
        have hp2 : 2 ^ t ≤ 32 := Nat.pow_le_pow_right (n := 2) (by decide) ht
        by_cases ht5 : t < 5
        · have hs1 := pre_step l (5 * j) t
          by_cases hin : 5 * j + t < 8 * len
          · obtain ⟨b, off, rfl, _, _, hrow⟩ := ((unhide HS).keep (unhide hb)).at (k := (5 * j + t) / 8) (by omega)
            have hq : (5 * j + t) / 8 < l.length := by rw [← unhide hll]; omega
            have c0 := hrow _ hq
            have hbit := hide (show bit l (5 * j + t) = (l[(5 * j + t) / 8]).toNat / 2 ^ (7 - (5 * j + t) % 8) % 2 by unfold bit; rw [getD_at _ _ hq])
            have hu := (l[(5 * j + t) / 8]).toNat_lt
            clear hrow
            generalize l[(5 * j + t) / 8] = c at c0 hbit hu
            unfold byteV at c0
            obtain ⟨r, hr⟩ : ∃ r, (5 * j + t) % 8 = r := ⟨_, rfl⟩
            have hr7 : r ≤ 7 := by omega
            have hr' : (5 * (j : Int) + (t : Int)) % 8 = (r : Int) := by omega
            rw [hr] at hbit
            clear hr
            have hq2 : ((c.toNat / 2 ^ (7 - r) : Nat) : Int) = (c.toNat : Int) / 2 ^ (7 - r) := by simp
            have hand : bits .and .i64 ((c.toNat : Int) / 2 ^ (7 - r)) 1 = ((bit l (5 * j + t) : Nat) : Int) := by
              rw [← hq2, and1 _ (Int.natCast_nonneg _) (by have := Nat.div_le_self c.toNat (2 ^ (7 - r)); omega), unhide hbit]; simp
            have hlt2 := bit_lt l (5 * j + t)
            have hs2 := hide hs1
            clear hs1 hq2
            go_wp2_with fail
            exact ⟨⟨t + 1, by omega, by rw [unhide hs2]; simp, by go_num⟩, by simp [intOf]; omega⟩
          · have hz : bit l (5 * j + t) = 0 := by
              unfold bit; rw [List.getD_eq_getElem?_getD, List.getElem?_eq_none (by rw [← unhide hll]; omega)]; simp
            have hs2 := hide (show pre l (5 * j) (t + 1) = pre l (5 * j) t * 2 by rw [hs1, hz]; omega)
            clear hs1 hz
            go_wp2_with fail
            exact ⟨⟨t + 1, by omega, by rw [unhide hs2]; simp, by go_num⟩, by simp [intOf]; omega⟩
        · have e5 : t = 5 := by omega
          subst e5
          have h32 := hide (five_lt l (5 * j))
          have hidx := run_letter (five l (5 * j)) (unhide h32)
          unfold five byteV at hidx
          go_wp2_with fail
          refine (l2Letters_any _).mono ?_
          rintro e w' ⟨rfl, rfl⟩
          go_wp2_with (at_builtin; refine wpList_append_own _ rfl _ _ 23 rfl w.heap.size 5 i0 (.int .u8 0) 1 1 Tryd.underlying23 hi hz0 hz1 hz2 rfl (by decide) _ _ _ rfl ((unhide hown).alloc _) ⟨_, 0, none⟩ 1 1 [byteV (letOf (pre l (5 * j) 5))] rfl rfl (cell_one_new _ _ _) (fun x hx => by simp at hx; subst hx; rfl) (by rw [List.length_take]; unfold maxLen; omega) (by rw [List.length_take]; omega) (by have := (unhide hb).size; simp; omega) ?_; intro v' w1 hown1 hgrow1 _)
          exact ⟨⟨j + 1, by omega, by go_num, hide (by rw [unhide hst]; exact own_snocU hown1), hide ((bAl (unhide hb) _).grown hgrow1 (by have := (unhide hb).size; simp; omega) (fun j hj => ((unhide hown).lt j hj).1))⟩, by simp [intOf]; omega⟩
    · have e : (arm l).take j = arm l := by
        apply List.take_of_length_le
        rw [arm_len, ← unhide hll]
        apply Nat.le_of_not_lt
        intro h
        exact hlt ((many_lt _ _).1 h)
      rw [e] at hown
      have cv := conv_own (unhide hown)
      go_wp2_with fail
      go_ret
      exact ⟨rfl, unhide hb⟩
/-- The armour of at most 20000 bytes; of more none. -/
def armD (l : List UInt8) : List UInt8 := if l.length ≤ 20000 then arm l else []
end Go.Proofs.YtfdfglblcgdoiaaDoor.D

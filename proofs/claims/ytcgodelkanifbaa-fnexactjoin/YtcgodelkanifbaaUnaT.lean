/- spec.l2Unarmor, Unarmor: the walks. -/
import Derived.Test.YtcgodelkanifbaaUnaS
namespace Go.Proofs.Ytcgodelkanifbaa
open Go.RowKit

theorem or_u8 (c : UInt8) (p : Nat) (hp : p ≤ 7) : bits .or .u8 (c.toNat : Int) (2 ^ p % 256) = ((UInt8.ofNat (c.toNat ||| 2 ^ p)).toNat : Int) := by
  have h1 := or_lt c p hp
  have h2 : (2 : Nat) ^ p < 2 ^ 8 := Nat.pow_lt_pow_right (by decide) (by omega)
  have e : ((2 : Int) ^ p % 256) = ((2 ^ p : Nat) : Int) := by
    have : ((2 ^ p : Nat) : Int) = (2 : Int) ^ p := by simp
    rw [← this]; exact Int.emod_eq_of_lt (Int.natCast_nonneg _) (Int.ofNat_lt.2 (Nat.lt_of_lt_of_eq h2 (by decide)))
  rw [e, (bits_nat .u8 8 (by decide) wraps_u8 c.toNat (2 ^ p) c.toNat_lt h2).2, UInt8.toNat_ofNat', Nat.mod_eq_of_lt h1]
/-- How l2Unarmor ends. -/
def L2Una (t : List UInt8) (w : World) (e : Ending) (w' : World) : Prop := ∃ v C ok, e = .returned (.tuple #[v, .bool ok]) ∧ (ok = true → C.length ≤ 1048576 ∧ UnaRes t C true ∧ w'.ownsRow w.heap.size 5 1 v C.length (C.map byteV)) ∧ (ok = false → UnaRes t [] false) ∧ Below w.heap.size w w'

set_option maxHeartbeats 4000000 in
theorem l2Unarmor_any (s : ByteArray) (w : World) (hs : s.size ≤ 1048576) :
    Calls Try.prog 33 #[.string s] w fun e w' => L2Una s.data.toList w e w' := by
  by_cases hbig : 40000 < s.size
  · have R := hide (show UnaRes s.data.toList [] false by
      refine .inr ⟨rfl, rfl, fun d hd e => ?_⟩
      have h1 : s.size = many d.length := by rw [← arm_len, e]; simp
      unfold many at h1
      omega)
    go_enter Try.func33, Try.ntmps33
    go_wp2_with fail
    go_ret2
    exact ⟨_, [], false, rfl, by simp, fun _ => unhide R, Below.refl _ _⟩
  have hsz : s.data.toList.length = s.size := by simp
  obtain ⟨n, hn⟩ : ∃ n, 5 * s.size / 8 = n := ⟨_, rfl⟩
  have hmk : ((s.size : Int) * 5) / 8 = (n : Int) := by omega
  have hnl : n ≤ 25000 := by omega
  obtain ⟨w1, hrun, hb1, hr1⟩ := make_bytes n w (by omega)
  have HB1 := hide hb1
  have HR1 := hide hr1
  have HN := hide hn
  have HL := hide hsz
  clear hb1 hr1 hn hsz
  go_enter Try.func33, Try.ntmps33
  go_wp2_with fail
  clear hrun hmk
  go_loopw [5] (fun i w' => ∃ (k : Nat) (C : List UInt8), k ≤ s.size ∧ i = .int .i64 k ∧ Hid (C.length = n) ∧ Hid (BitsTo s.data.toList C (5 * k)) ∧ Hid (RowIs w' w.heap.size (cellsOf C) 5) ∧ Hid (Below w.heap.size w w')) (fun i _ => s.size - (intOf i).toNat)
  case atStart => exact ⟨0, _, Nat.zero_le _, rfl, hide (by simp), hide (fun d _ k _ => by rw [bit_zero, if_neg (by omega)]), HR1, HB1⟩
  case round =>
    obtain ⟨k, C, hk, rfl, hC, hbt, hr, hb⟩ := hrel
    by_cases hlt : k < s.size
    · obtain ⟨c, hc⟩ : ∃ c, s[k] = c := ⟨_, rfl⟩
      have HF := hide (show ∀ d, s.data.toList = arm d → c = letOf (five d (5 * k)) by
        intro d hd
        have hkl : k < (arm d).length := by rw [← hd]; simpa using hlt
        have e1 : (arm d)[k] = c := by
          have : (s.data.toList)[k]'(by simpa using hlt) = c := hc
          rw [← this]; simp only [hd]
        rw [← e1, arm_get])
      go_wp2_with fail
      go_loopw [6, 7] (fun v i w' => ∃ (m : Nat) (r : Int), m ≤ 32 ∧ i = .int .i64 m ∧ v = .int .i64 r ∧ -1 ≤ r ∧ r < 32 ∧ Hid (∀ q, q < 32 → c = letOf q → r = if q < m then (q : Int) else -1) ∧ Hid (RowIs w' w.heap.size (cellsOf C) 5) ∧ Hid (Below w.heap.size w w')) (fun _ i _ => 32 - (intOf i).toNat)
      case atStart => exact ⟨0, -1, by omega, rfl, rfl, by omega, by omega, hide (fun q _ _ => by rw [if_neg (by omega)]), hr, hb⟩
      case round =>
        obtain ⟨m, r, hm, rfl, rfl, r0, r1, hR, hr2, hb2⟩ := hrel
        by_cases hm32 : m < 32
        · have hidx := run_letter m hm32
          unfold byteV at hidx
          have hst := hide (show ∀ q, q < 32 → c = letOf q → (letOf m = c → (m : Int) = if q < m + 1 then (q : Int) else -1) ∧ (letOf m ≠ c → r = if q < m + 1 then (q : Int) else -1) by
            intro q hq e
            have h1 := unhide hR q hq e
            constructor
            · intro h
              have := letOf_inj hm32 hq (by rw [h, e])
              subst this; rw [if_pos (by omega)]
            · intro h
              have hne : q ≠ m := fun h2 => h (by rw [← h2]; exact e.symm)
              rw [h1]
              by_cases h3 : q < m
              · rw [if_pos h3, if_pos (by omega)]
              · rw [if_neg h3, if_neg (by omega)])
          have hne := u8_ne (a := letOf m) (b := c)
          generalize letOf m = L at hidx hst hne
          by_cases hL : L = c
          · have heq : ((L.toNat : Int) == (c.toNat : Int)) = true := by rw [hL]; simp
            clear hne
            go_wp2_with fail
            go_quiet ((go_at_call 44; exact quiet_same (l2Letters_any _)))
            go_wp2_with fail
            exact ⟨⟨m + 1, m, by omega, by go_num, rfl, by omega, by omega, hide (fun q hq e => (unhide hst q hq e).1 hL), hr2, hide (bDr (unhide hb2) _)⟩, by simp [intOf]; omega⟩
          · have heq : ((L.toNat : Int) == (c.toNat : Int)) = false := by
              rw [decide_eq_false hL] at hne
              simpa using hne
            clear hne
            go_wp2_with fail
            go_quiet ((go_at_call 44; exact quiet_same (l2Letters_any _)))
            go_wp2_with fail
            exact ⟨⟨m + 1, r, by omega, by go_num, rfl, by omega, by omega, hide (fun q hq e => (unhide hst q hq e).2 hL), hr2, hide (bDr (unhide hb2) _)⟩, by simp [intOf]; omega⟩
        · have hRd := hide (show ∀ d, s.data.toList = arm d → r = (five d (5 * k) : Nat) by
            intro d hd
            have := unhide hR _ (five_lt d (5 * k)) (unhide HF d hd)
            rw [if_pos (by have := five_lt d (5 * k); omega)] at this
            exact this)
          by_cases hneg : r < 0
          · have R := hide (show UnaRes s.data.toList [] false by
              refine .inr ⟨rfl, rfl, fun d _ e => ?_⟩
              have := unhide hRd d e.symm
              omega)
            go_wp2_with fail
            go_ret2
            exact ⟨_, [], false, rfl, by simp, fun _ => unhide R, unhide hb2⟩
          obtain ⟨V, rfl⟩ := Int.eq_ofNat_of_zero_le (show 0 ≤ r by omega)
          go_wp2_with fail
          go_loopw [8, 9] (fun i _ w' => ∃ (t : Nat) (C' : List UInt8), t ≤ 5 ∧ i = .int .i64 t ∧ Hid (C'.length = n) ∧ Hid (BitsTo s.data.toList C' (5 * k + t)) ∧ Hid (RowIs w' w.heap.size (cellsOf C') 5) ∧ Hid (Below w.heap.size w w')) (fun i _ _ => 5 - (intOf i).toNat)
          case atStart => exact ⟨0, C, by omega, rfl, hC, hbt, hr2, hb2⟩
          case round =>
            obtain ⟨t, C', ht, rfl, hC', hbt', hr3, hb3⟩ := hrel
            by_cases ht5 : t < 5
            · have hq2 : ((V / 2 ^ (4 - t) : Nat) : Int) = (V : Int) / 2 ^ (4 - t) := by simp
              have hand : bits .and .i64 ((V : Int) / 2 ^ (4 - t)) 1 = ((V / 2 ^ (4 - t) % 2 : Nat) : Int) := by
                rw [← hq2, and1 _ (Int.natCast_nonneg _) (by have := Nat.div_le_self V (2 ^ (4 - t)); omega)]; simp
              have hVb := hide (show ∀ d, s.data.toList = arm d → V / 2 ^ (4 - t) % 2 = bit d (5 * k + t) by
                intro d hd
                have e : V = five d (5 * k) := by have := unhide hRd d hd; omega
                rw [e]; exact five_bit d (5 * k) t ht5)
              clear hq2
              by_cases hp : k * 5 + t < n * 8
              · by_cases hone : V / 2 ^ (4 - t) % 2 = 1
                · rw [hone] at hand
                  have hqn : (k * 5 + t) / 8 < C'.length := by rw [unhide hC']; omega
                  have fr := (unhide hr3).froz ((k * 5 + t) / 8)
                  have c1 := (unhide hr3).at (cellsOf_get C' _ hqn)
                  have hz : w.heap.size < wr.heap.size := (unhide hr3).lt
                  have B2 := hide (show BitsTo s.data.toList (setBit C' (k * 5 + t)) (5 * k + (t + 1)) by
                    intro d hd j hj
                    rw [setBit_len] at hj
                    rw [setBit_bit _ _ _ (by rw [unhide hC']; omega)]
                    by_cases e : j = k * 5 + t
                    · rw [if_pos e, if_pos (by omega), e, show k * 5 + t = 5 * k + t by omega, ← unhide hVb d hd, hone]
                    · rw [if_neg e, unhide hbt' d hd j hj]
                      by_cases e2 : j < 5 * k + t
                      · rw [if_pos e2, if_pos (by omega)]
                      · rw [if_neg e2, if_neg (by omega)])
                  have hset := hide (show (cellsOf C').setIfInBounds ((k * 5 + t) / 8) (byteV (UInt8.ofNat ((C'[(k * 5 + t) / 8]).toNat ||| 2 ^ (7 - (k * 5 + t) % 8)))) = cellsOf (setBit C' (k * 5 + t)) by
                    rw [cellsOf_set]; unfold setBit; rw [getD_at _ _ hqn])
                  obtain ⟨c2, hc2⟩ : ∃ c2, C'[(k * 5 + t) / 8] = c2 := ⟨_, rfl⟩
                  rw [hc2] at c1 hset
                  clear hc2
                  unfold byteV at c1
                  obtain ⟨r8, hr8⟩ : ∃ r8, (k * 5 + t) % 8 = r8 := ⟨_, rfl⟩
                  have hr7 : r8 ≤ 7 := by omega
                  have hr8' : ((k : Int) * 5 + (t : Int)) % 8 = (r8 : Int) := by omega
                  rw [hr8] at hset
                  clear hr8
                  have hu := c2.toNat_lt
                  have hor := or_u8 c2 (7 - r8) (by omega)
                  generalize UInt8.ofNat (c2.toNat ||| 2 ^ (7 - r8)) = c3 at hor hset
                  go_wp2_with fail
                  exact ⟨⟨t + 1, setBit C' (k * 5 + t), by omega, by go_num, hide (by rw [setBit_len]; exact unhide hC'), B2, hide (by rw [← unhide hset]; exact (unhide hr3).set _ _), hide ((unhide hb3).setCell (Nat.le_refl _) _)⟩, by simp [intOf]; omega⟩
                · have hz : V / 2 ^ (4 - t) % 2 = 0 := by omega
                  rw [hz] at hand
                  have B2 := hide (show BitsTo s.data.toList C' (5 * k + (t + 1)) by
                    intro d hd j hj
                    rw [unhide hbt' d hd j hj]
                    by_cases e : j = 5 * k + t
                    · rw [if_neg (by omega), if_pos (by omega), e, ← unhide hVb d hd, hz]
                    · by_cases e2 : j < 5 * k + t
                      · rw [if_pos e2, if_pos (by omega)]
                      · rw [if_neg e2, if_neg (by omega)])
                  go_wp2_with fail
                  exact ⟨⟨t + 1, C', by omega, by go_num, hC', B2, hr3, hb3⟩, by simp [intOf]; omega⟩
              · have B2 := hide (show BitsTo s.data.toList C' (5 * k + (t + 1)) by
                  intro d hd j hj
                  rw [unhide hbt' d hd j hj]
                  rw [unhide hC'] at hj
                  rw [if_pos (by omega), if_pos (by omega)])
                clear hand
                go_wp2_with fail
                exact ⟨⟨t + 1, C', by omega, by go_num, hC', B2, hr3, hb3⟩, by simp [intOf]; omega⟩
            · have B2 := hide (show BitsTo s.data.toList C' (5 * (k + 1)) by
                have := unhide hbt'
                rwa [show 5 * k + t = 5 * (k + 1) by omega] at this)
              go_wp2_with fail
              exact ⟨⟨k + 1, C', by omega, by go_num, hC', B2, hr3, hb3⟩, by simp [intOf]; omega⟩
    · have G := hide ((unhide hbt).guess (by rw [unhide HL]; omega) (by rw [unhide HL, unhide HN]; exact unhide hC))
      by_cases hn2 : n ≤ 20000
      · go_wp2_with fail
        refine (l2Armor_any _ n _ C _ hn2 (by rw [← unhide hC]; exact slB_row (unhide hr) (unhide hr).lt)).mono ?_
        rintro e w2 ⟨rfl, hb4⟩
        have B4 := hide (bTr (unhide hb) hb4)
        have R4 := hide ((unhide hr).keep hb4)
        clear hb4
        cases hq : (arm C == s.toList)
        · have U := hide ((una_of' (unhide G) false (by simp) (fun _ h => by rw [Lib.toList_data] at hq; simp [h.1] at hq)).2 rfl)
          go_wp2_with fail
          go_ret2
          exact ⟨_, [], false, rfl, by simp, fun _ => unhide U, unhide B4⟩
        · have U := hide ((una_of' (unhide G) true (fun _ => ⟨by rw [Lib.toList_data] at hq; simpa using hq, by rw [unhide hC]; exact hn2⟩) (by simp)).1 rfl)
          go_wp2_with fail
          go_ret2
          refine ⟨_, C, true, rfl, fun _ => ⟨by rw [unhide hC]; omega, unhide U, ?_⟩, by simp, unhide B4⟩
          have := own_row (base := w.heap.size) (unhide R4) (Nat.le_refl _) (by rw [unhide hC]; unfold maxLen; omega)
          rw [unhide hC] at this ⊢
          exact this
      · have U := hide ((una_of' (unhide G) false (by simp) (fun _ h => by rw [unhide hC] at h; exact hn2 h.2)).2 rfl)
        go_wp2_with fail
        go_ret2
        exact ⟨_, [], false, rfl, by simp, fun _ => unhide U, unhide hb⟩

theorem sUnarmor_any (s : ByteArray) (w : World) (hs : s.size ≤ 1048576) :
    Calls Try.prog 14 #[.string s] w fun e w' => ∃ v D ok, e = .returned (.tuple #[v, .bool ok]) ∧ D.length ≤ 1048576 ∧ UnaRes s.data.toList D ok ∧ w'.ownsRow w.heap.size 5 1 v D.length (D.map byteV) ∧ Below w.heap.size w w' := by
  go_enter Try.func14, Try.ntmps14
  go_wp2_with fail
  refine (l2Unarmor_any s _ hs).mono ?_
  rintro e w1 ⟨v, C, ok, rfl, h1, h2, hb1⟩
  cases ok
  · have H := hide (h2 rfl)
    clear h1 h2
    go_wp2_with fail
    go_ret2
    exact ⟨_, [], false, rfl, by simp, unhide H, World.ownsRow_nil _ _ _ _, hb1⟩
  · have H := hide (h1 rfl)
    clear h1 h2
    go_wp2_with fail
    go_ret2
    exact ⟨_, C, true, rfl, (unhide H).1, (unhide H).2.1, (unhide H).2.2, hb1⟩
end Go.Proofs.Ytcgodelkanifbaa

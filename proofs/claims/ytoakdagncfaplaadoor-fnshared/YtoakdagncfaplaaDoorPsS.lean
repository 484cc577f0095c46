/- spec.Split. -/
import Derived.Test.YtoakdagncfaplaaDoorPsI
namespace Go.Proofs.YtoakdagncfaplaaDoor.D
open Go.RowKit

set_option maxRecDepth 20000 in
set_option maxHeartbeats 2000000 in
theorem sSplit_any (s many need : Int) (a : Option Addr) (len cap : Nat) (l : List UInt8) (w : World) (hlen : len ≤ 1048576) (hs : SlB w w.heap.size a len l) :
    Calls Tryd.prog 6 #[.int .i64 s, .int .i64 many, .int .i64 need, .slice a len cap] w fun e w' => (∃ v r, e = .returned v ∧ SplIs s many need l r ∧ w'.ownsRow w.heap.size 28 2 v r.length (SharesV r)) ∧ Below w.heap.size w w' := by
  obtain ⟨i0, hi, hz0, hz1, hz2⟩ := info_parts info_Share
  have HS := hide hs
  have hll := hide hs.1
  clear hs
  by_cases cc : 0 ≤ s ∧ s < 1073741789 ∧ 1 ≤ need ∧ need ≤ many ∧ many ≤ 20 ∧ len ≤ 20000
  case neg =>
    have no : Hid (¬ SplC s many need l) := hide (fun h => cc (by have := unhide hll; obtain ⟨h1, h2, h3, h4, h5, h6⟩ := h; exact ⟨h1, h2, h4, h5, h6, by omega⟩))
    by_cases c1 : s < 0
    · go_enter Tryd.func6, Tryd.ntmps6
      go_wp2_with fail
      go_ret
      first | exact ⟨⟨_, [], rfl, .inr ⟨unhide no, rfl⟩, World.ownsRow_nil _ _ _ _⟩, Below.refl _ _⟩ | exact ⟨⟨_, rfl, [], .inr ⟨unhide no, rfl⟩, World.ownsRow_nil _ _ _ _⟩, Below.refl _ _⟩
    by_cases c2 : 1073741789 ≤ s
    · go_enter Tryd.func6, Tryd.ntmps6
      go_wp2_with fail
      go_ret
      first | exact ⟨⟨_, [], rfl, .inr ⟨unhide no, rfl⟩, World.ownsRow_nil _ _ _ _⟩, Below.refl _ _⟩ | exact ⟨⟨_, rfl, [], .inr ⟨unhide no, rfl⟩, World.ownsRow_nil _ _ _ _⟩, Below.refl _ _⟩
    by_cases c3 : need < 1
    · go_enter Tryd.func6, Tryd.ntmps6
      go_wp2_with fail
      go_ret
      first | exact ⟨⟨_, [], rfl, .inr ⟨unhide no, rfl⟩, World.ownsRow_nil _ _ _ _⟩, Below.refl _ _⟩ | exact ⟨⟨_, rfl, [], .inr ⟨unhide no, rfl⟩, World.ownsRow_nil _ _ _ _⟩, Below.refl _ _⟩
    by_cases c4 : many < need
    · go_enter Tryd.func6, Tryd.ntmps6
      go_wp2_with fail
      go_ret
      first | exact ⟨⟨_, [], rfl, .inr ⟨unhide no, rfl⟩, World.ownsRow_nil _ _ _ _⟩, Below.refl _ _⟩ | exact ⟨⟨_, rfl, [], .inr ⟨unhide no, rfl⟩, World.ownsRow_nil _ _ _ _⟩, Below.refl _ _⟩
    by_cases c5 : 20 < many
    · go_enter Tryd.func6, Tryd.ntmps6
      go_wp2_with fail
      go_ret
      first | exact ⟨⟨_, [], rfl, .inr ⟨unhide no, rfl⟩, World.ownsRow_nil _ _ _ _⟩, Below.refl _ _⟩ | exact ⟨⟨_, rfl, [], .inr ⟨unhide no, rfl⟩, World.ownsRow_nil _ _ _ _⟩, Below.refl _ _⟩
    have c6 : 20000 < len := by omega
    go_enter Tryd.func6, Tryd.ntmps6
    go_wp2_with fail
    go_ret
    first | exact ⟨⟨_, [], rfl, .inr ⟨unhide no, rfl⟩, World.ownsRow_nil _ _ _ _⟩, Below.refl _ _⟩ | exact ⟨⟨_, rfl, [], .inr ⟨unhide no, rfl⟩, World.ownsRow_nil _ _ _ _⟩, Below.refl _ _⟩
  obtain ⟨s0, s1, d1, d2, d3, s2⟩ := cc
  have yes : Hid (SplC s many need l) := hide ⟨s0, s1, by rw [← unhide hll]; exact s2, d1, d2, d3⟩
  obtain ⟨nd, rfl⟩ : ∃ nd : Nat, need = ((nd + 1 : Nat) : Int) := ⟨(need - 1).toNat, by omega⟩
  obtain ⟨mn, rfl⟩ : ∃ mn : Nat, many = (mn : Int) := ⟨many.toNat, by omega⟩
  have e1 : ¬ s < 0 := by omega
  have e2 : ¬ 1073741789 ≤ s := by omega
  have e3 : ¬ ((nd + 1 : Nat) : Int) < 1 := by omega
  have e4 : ¬ (mn : Int) < ((nd + 1 : Nat) : Int) := by omega
  have e5 : ¬ 20 < (mn : Int) := by omega
  have e6 : ¬ 20000 < len := by omega
  have nd20 : nd + 1 ≤ 20 := by omega
  have mn20 : mn ≤ 20 := by omega
  have le20 : len ≤ 20000 := s2
  clear d1 d2 d3
  go_enter Tryd.func6, Tryd.ntmps6
  go_wp2_with fail
  generalize decide ((nd : Int) + 1 < 1) = t1 at *
  generalize decide ((mn : Int) < (nd : Int) + 1) = t2 at *
  generalize decide (20000 < (len : Int)) = t3 at *
  go_loopw [9, 10] (fun v j w' => ∃ (k : Nat), k ≤ mn ∧ j = .int .i64 ((k : Int) + 1) ∧ Hid (w'.ownsRow w.heap.size 28 2 v k (SharesV (shs s (nd + 1) l k))) ∧ Hid (Below w.heap.size w w')) (fun _ j _ => mn + 1 - (Go.RowKit.intOf j).toNat)
  case atStart => exact ⟨0, Nat.zero_le _, rfl, hide (World.ownsRow_nil _ _ _ _), hide (Below.refl _ _)⟩
  case round =>
    obtain ⟨k, hk, rfl, ho, hb⟩ := hrel
    by_cases hlt : k < mn
    · have i1 : (k : Int) + 1 ≤ (mn : Int) := by omega
      obtain ⟨x, hx⟩ : ∃ x : Int, x = (k : Int) + 1 := ⟨_, rfl⟩
      have SN := hide (shs_snoc s (nd + 1) l k)
      simp only [Nat.add_sub_cancel] at SN
      have mz : Hid (mn + 1 - (Go.RowKit.intOf (.int .i64 ((k : Int) + 1 + 1))).toNat < mn + 1 - (Go.RowKit.intOf (.int .i64 ((k : Int) + 1))).toNat) := hide (by simp [Go.RowKit.intOf]; omega)
      have HX := hide hx
      rw [← hx] at SN i1 mz ⊢
      have x0 : 0 ≤ x := by omega
      have x2 : x ≤ 20 := by omega
      clear hx
      go_wp2_with fail
      go_loopw [11, 12, 13] (fun y p j w' => ∃ (i : Nat) (P Y : Int), i ≤ nd ∧ j = .int .i64 ((i : Int) + 1) ∧ p = .int .i64 P ∧ y = .int .i64 Y ∧ (0 ≤ P ∧ P < 1073741789) ∧ (0 ≤ Y ∧ Y < 1073741789) ∧ Hid (P = x ^ i % 1073741789) ∧ Hid (Y = pev x (cof s l i) % 1073741789) ∧ Hid (Below wr.heap.size wr w')) (fun _ _ j _ => nd + 1 - (Go.RowKit.intOf j).toNat)
      case atStart => exact ⟨0, 1, s, Nat.zero_le _, rfl, rfl, rfl, ⟨by decide, by decide⟩, ⟨by omega, by omega⟩, hide (by simp), hide (by simp [cof, pev]; omega), hide (Below.refl _ _)⟩
      case round =>
        obtain ⟨i, P, Y, hi', rfl, rfl, rfl, hP, hY, eP, eY, hb'⟩ := hrel
        by_cases hlt' : i < nd
        · obtain ⟨c, hc⟩ : ∃ c : UInt8, c = UInt8.ofNat (i + 1) := ⟨_, rfl⟩
          have hcn : ((c.toNat : Nat) : Int) = (i : Int) + 1 := by rw [hc, UInt8.toNat_ofNat', Nat.mod_eq_of_lt (by omega)]; omega
          have j0 : (i : Int) + 1 < (nd : Int) + 1 := by omega
          have j1 : (0 : Int) ≤ (i : Int) + 1 := by omega
          have j2 : (i : Int) + 1 ≤ 255 := by omega
          have b1 : 0 ≤ P * x := Int.mul_nonneg hP.1 x0
          have b2 : P * x ≤ 1073741789 * 20 := Int.mul_le_mul (by omega) x2 x0 (by decide)
          have SX := hide (one_slB wr c)
          rw [hcn] at SX
          obtain ⟨W1, hW1⟩ : ∃ W1, W1 = wr.alloc (.cells #[.int .u8 ((i : Int) + 1)] 5) := ⟨_, rfl⟩
          rw [← hW1] at SX
          have BA : Hid (Below wr.heap.size wr W1) := hide (by rw [hW1]; exact bAl (Below.refl _ _) _)
          have HW := hide hW1.symm
          have HC := hide hc
          clear hW1 hcn hc
          have BR := hide (bTr (unhide hb') (unhide BA))
          have BW := hide (bTr (unhide hb) (unhide BR))
          have SW := hide (((unhide HS).keep (unhide BW)).mono (unhide BW).size)
          clear hb' BA
          have p1 : 0 ≤ P * x % 1073741789 := Int.emod_nonneg _ (by decide)
          have p2 : P * x % 1073741789 < 1073741789 := Int.emod_lt_of_pos _ (by decide)
          go_wp2_with fail
          rw [unhide HW]
          clear HW
          refine (l2Mac_any a _ len cap 1 1 l [c] W1 (by omega) (by omega) (unhide SW) (unhide SX)).mono ?_
          rintro e w2 ⟨v2, D, hD, rfl, ho2, hb2⟩
          have HD : Hid (D = mac l [UInt8.ofNat (i + 1)]) := hide (by rw [← unhide HC, unhide hD])
          have lD := hide (show D.length = 16 by rw [unhide HD]; exact mac_len _ _)
          obtain ⟨b2', c2, rfl, _, g1, g2, hs2⟩ := own_some ho2 (by rw [unhide lD]; decide)
          have CJ := hide (cj_is l (i + 1) D (unhide HD))
          have q := hide (l2Number_any b2' D.length c2 D w2 (by rw [unhide lD]; decide) (by rw [unhide lD]; decide) hs2)
          have B2 := hide (bTr (unhide BR) hb2)
          have nl := num_lt D
          obtain ⟨N, hN⟩ : ∃ N : Nat, num D = N := ⟨_, rfl⟩
          rw [hN] at q CJ nl
          clear ho2 hb2 hs2 hD BW SW SX HC HD g1 g2 hN
          have n1 : 0 ≤ (N : Int) % 1073741789 := Int.emod_nonneg _ (by decide)
          have n2 : (N : Int) % 1073741789 < 1073741789 := Int.emod_lt_of_pos _ (by decide)
          have m1 : 0 ≤ (N : Int) % 1073741789 * (P * x % 1073741789) := Int.mul_nonneg n1 p1
          have m2 : (N : Int) % 1073741789 * (P * x % 1073741789) ≤ 1073741789 * 1073741789 := Int.mul_le_mul (by omega) (by omega) p1 (by decide)
          have EP : Hid (P * x % 1073741789 = x ^ (i + 1) % 1073741789) := hide (pow_step _ _ _ _ (unhide eP))
          have EY : Hid ((Y + (N : Int) % 1073741789 * (P * x % 1073741789)) % 1073741789 = pev x (cof s l (i + 1)) % 1073741789) := hide (by
            rw [unhide eY, unhide CJ, cof_snoc]
            exact pev_step _ _ _ _ _ (by rw [cof_len]; exact unhide EP))
          go_wp2_with fail
          refine (unhide q).mono ?_
          rintro e w3 ⟨rfl, rfl⟩
          clear q
          go_wp2_with fail
          exact ⟨⟨i + 1, _, _, by omega, by go_num, rfl, rfl, ⟨p1, p2⟩, ⟨Int.emod_nonneg _ (by decide), Int.emod_lt_of_pos _ (by decide)⟩, EP, EY, B2⟩, by simp [Go.RowKit.intOf]; omega⟩
        · obtain rfl : i = nd := by omega
          have j0 : ¬ (i : Int) + 1 < (i : Int) + 1 := by omega
          have O2 := hide (own_kB (unhide ho) (unhide hb'))
          have B2 := hide (bTr (unhide hb) (unhide hb'))
          rw [← unhide eY] at SN
          clear ho hb hb' eP eY
          go_wp2_with (at_builtin; refine wpList_append_own _ rfl _ _ 25 rfl w.heap.size 28 i0 _ 2 16 Tryd.underlying25 hi hz0 hz1 hz2 rfl (by decide) _ _ _ rfl ((unhide O2).alloc _) ⟨_, 0, none⟩ 1 1 [.int .i64 x, .int .i64 Y] rfl rfl (cell_two_new _ _ _ _) (fun x hx => by simp at hx; rcases hx with rfl | rfl <;> rfl) (by unfold maxLen; omega) (by omega) (by have := (unhide B2).size; simp; omega) ?_; intro v' w4 hown1 hgrow1 _)
          refine ⟨⟨k + 1, by omega, by rw [unhide HX]; go_num, hide ?_, hide ((bAl (unhide B2) _).grown hgrow1 (by have := (unhide B2).size; simp; omega) (fun j hj => ((unhide O2).lt j hj).1))⟩, unhide mz⟩
          rw [unhide SN, SharesV_snoc]
          exact hown1
    · obtain rfl : mn = k := by omega
      have i1 : ¬ (mn : Int) + 1 ≤ (mn : Int) := by omega
      go_wp2_with fail
      go_ret
      refine ⟨⟨_, rfl, shs s (nd + 1) l mn, .inl ⟨unhide yes, by simp⟩, by rw [shs_len]; exact unhide ho⟩, unhide hb⟩
end Go.Proofs.YtoakdagncfaplaaDoor.D

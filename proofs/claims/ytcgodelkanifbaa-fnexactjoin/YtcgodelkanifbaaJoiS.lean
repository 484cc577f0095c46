/- spec.Join. -/
import Derived.Test.YtcgodelkanifbaaJoiK
namespace Go.Proofs.Ytcgodelkanifbaa
open Go.RowKit

def RetJ (l : List (Int × Int)) (e : Ending) : Prop := ∃ (r : Int) (ok : Bool), e = .returned (.tuple #[.int .i64 r, .bool ok]) ∧ JoinIs l r ok

theorem nats_inj {l : List (Int × Int)} (h : OkTo l l.length) {i j : Nat} (hi : i < (nats l).length) (hj : j < (nats l).length) (e : (nats l)[i].1 = (nats l)[j].1) : i = j := by
  rw [nats_len] at hi hj
  have hh : ∀ a b (ha : a < l.length) (hb : b < l.length), a < b → l[a].1.toNat ≠ l[b].1.toNat := by
    intro a b ha hb hab e
    have h2 := (h b hb hb).2
    have m1 := OkTo.mem h (List.getElem_mem ha)
    have m2 := OkTo.mem h (List.getElem_mem hb)
    have e2 : l[a].1 = l[b].1 := by omega
    rw [List.any_eq_false] at h2
    exact h2 l[a] (List.mem_take_iff_getElem.2 ⟨a, by omega, rfl⟩) (decide_eq_true e2)
  simp only [nats, List.getElem_map] at e
  rcases Nat.lt_trichotomy i j with h1 | h1 | h1
  · exact absurd e (hh i j hi hj h1)
  · exact h1
  · exact absurd e.symm (hh j i hj hi h1)

set_option maxHeartbeats 2000000 in
theorem sJoin_sum (b off len cap : Nat) (l : List (Int × Int)) (w : World) (hl : len = l.length) (h1 : 1 ≤ len) (hlen : len ≤ 20) (hc : len ≤ cap) (hs : ShRow w b off l) :
    Calls Try.prog 22 #[.slice (some ⟨b, off, none⟩) len cap] w fun e w' => RetJ l e ∧ Below w.heap.size w w' := by
  have HS := hide hs
  have HL := hide hl
  clear hs hl
  go_enter Try.func22, Try.ntmps22
  go_wp2_with fail
  go_loopw [25] (fun i w' => ∃ (k : Nat), k ≤ len ∧ i = .int .i64 k ∧ Hid (OkTo l k) ∧ Hid (Below w.heap.size w w')) (fun i _ => len - (intOf i).toNat)
  case atStart => exact ⟨0, Nat.zero_le _, rfl, hide (fun i _ h => absurd h (Nat.not_lt_zero _)), hide (Below.refl _ _)⟩
  case round =>
    obtain ⟨k, hk, rfl, ha, hb⟩ := hrel
    by_cases hlt : k < len
    · have hk' : k < l.length := by rw [← unhide HL]; exact hlt
      have r := (unhide HS).keep (unhide hb)
      have p0 := r.c0 k hk'
      have p1 := r.c1 k hk'
      have eT := hide (show ∀ j, OkTo l j → (k < j → shareB l[k].1 l[k].2 = true ∧ (l.take k).any (fun s => decide (s.1 = l[k].1)) = false) from fun j h hj => h k hk' hj)
      have eN := hide (show shareB l[k].1 l[k].2 = true → (l.take k).any (fun s => decide (s.1 = l[k].1)) = false → OkTo l (k + 1) from fun h1 h2 i hi hik => by
        rcases Nat.lt_or_ge i k with h | h
        · exact unhide ha i hi h
        · obtain rfl : i = k := by omega
          exact ⟨h1, h2⟩)
      have eJ := hide (show k < l.length from hk')
      generalize l[k] = s at p0 p1 eT eN
      obtain ⟨X, Y⟩ := s
      simp only at p0 p1
      have i0 : (0 : Int) ≤ (k : Int) := by omega
      have i1 : (k : Int) < (len : Int) := by omega
      have RA := hide (RowIs.new wr #[.int .i64 X, .int .i64 Y] 52)
      have BA := hide (bAl (unhide hb) (.cells #[.int .i64 X, .int .i64 Y] 52))
      have RS := hide (r.keep (bAl (Below.refl _ _) (.cells #[.int .i64 X, .int .i64 Y] 52)))
      have no : Hid (shareB X Y = false → JoinIs l 0 false) := by
        refine hide (fun hg => Or.inr ⟨rfl, ?_, rfl⟩)
        intro h
        have h2 := (unhide eT _ h.2.2 (unhide eJ)).1
        have h3 : shareB X Y = true := h2
        rw [hg] at h3
        exact Bool.noConfusion h3
      clear r
      by_cases g1 : X < 1
      · have hg := hide (unhide no (by unfold shareB; simp; omega))
        go_wp2_with fail
        go_ret2
        exact ⟨⟨0, false, rfl, unhide hg⟩, unhide BA⟩
      by_cases g2 : 1073741789 ≤ X
      · have hg := hide (unhide no (by unfold shareB; simp; omega))
        go_wp2_with fail
        go_ret2
        exact ⟨⟨0, false, rfl, unhide hg⟩, unhide BA⟩
      by_cases g3 : Y < 0
      · have hg := hide (unhide no (by unfold shareB; simp; omega))
        go_wp2_with fail
        go_ret2
        exact ⟨⟨0, false, rfl, unhide hg⟩, unhide BA⟩
      by_cases g4 : 1073741789 ≤ Y
      · have hg := hide (unhide no (by unfold shareB; simp; omega))
        go_wp2_with fail
        go_ret2
        exact ⟨⟨0, false, rfl, unhide hg⟩, unhide BA⟩
      have hg := hide (shareB_iff.2 ⟨by omega, by omega, by omega, by omega⟩ : shareB X Y = true)
      clear no
      have zw : Hid (wr.heap.size + 1 ≤ (wr.alloc (.cells #[.int .i64 X, .int .i64 Y] 52)).heap.size) := hide (by simp)
      go_wp2_with fail
      clear p0 p1 g1 g2 g3 g4
      generalize wr.alloc (.cells #[.int .i64 X, .int .i64 Y] 52) = W at RA BA RS zw ⊢
      go_loopw [52] (fun i w' => ∃ (j : Nat), j ≤ k ∧ i = .int .i64 j ∧ Hid ((l.take j).any (fun s => decide (s.1 = X)) = false) ∧ Hid (Below W.heap.size W w')) (fun i _ => k - (intOf i).toNat)
      case atStart => exact ⟨0, Nat.zero_le _, rfl, hide rfl, hide (Below.refl _ _)⟩
      case round =>
        obtain ⟨j, hj, rfl, ha2, hb2⟩ := hrel
        by_cases hlt2 : j < k
        · have hj' : j < l.length := Nat.lt_trans hlt2 hk'
          have r := (unhide RS).keep (unhide hb2)
          have p0 := r.c0 j hj'
          have p1 := r.c1 j hj'
          have eS := hide (any_snoc l j X hj')
          have eK := hide (show l[j].1 = X → (l.take k).any (fun s => decide (s.1 = X)) = true from fun h => by
            rw [List.any_eq_true]
            exact ⟨l[j], List.mem_take_iff_getElem.2 ⟨j, by omega, rfl⟩, decide_eq_true h⟩)
          generalize l[j] = s at p0 p1 eS eK
          obtain ⟨X2, Y2⟩ := s
          simp only at p0 p1
          have j0 : (0 : Int) ≤ (j : Int) := by omega
          have j1 : (j : Int) < (k : Int) := by omega
          have q0 := ((unhide RA).keep (unhide hb2)).keep (bAl (Below.refl _ _) (.cells #[.int .i64 X2, .int .i64 Y2] 52)) |>.at (o := 0) (v := .int .i64 X) rfl
          have B2 := hide (bAl (unhide hb2) (.cells #[.int .i64 X2, .int .i64 Y2] 52))
          clear r
          by_cases hx : X2 = X
          · have hn := hide (show JoinIs l 0 false by
              refine Or.inr ⟨rfl, ?_, rfl⟩
              intro h
              have h2 : (l.take k).any (fun s => decide (s.1 = X)) = false := (unhide eT _ h.2.2 (unhide eJ)).2
              rw [unhide eK hx] at h2
              exact Bool.noConfusion h2)
            subst hx
            go_wp2_with fail
            go_ret2
            exact ⟨⟨0, false, rfl, unhide hn⟩, bTr (unhide BA) (unhide B2)⟩
          · have hd := hide (decide_eq_false hx)
            go_wp2_with fail
            exact ⟨⟨j + 1, by omega, by go_num, hide (by rw [unhide eS, unhide ha2, unhide hd]; rfl), B2⟩, by simp [intOf]; omega⟩
        · obtain rfl : j = k := by omega
          go_wp2_with fail
          exact ⟨⟨j + 1, by omega, by go_num, hide (unhide eN (unhide hg) (unhide ha2)), hide (bTr (unhide BA) (unhide hb2))⟩, by simp [intOf]; omega⟩
    · obtain rfl : k = len := by omega
      have hok := hide (show OkTo l l.length by rw [← unhide HL]; exact unhide ha)
      have S2 := hide (show ShRow w b off (ints (nats l)) by rw [ints_nats (unhide hok)]; exact unhide HS)
      have HG := hide (fun s (hs : s ∈ nats l) => nats_mem (unhide hok) hs)
      have HM := hide (show k = (nats l).length by rw [nats_len]; exact unhide HL)
      have HD := hide (show ∀ i j (hi : i < (nats l).length) (hj : j < (nats l).length), (nats l)[i].1 = (nats l)[j].1 → i = j from fun i j hi hj e => nats_inj (unhide hok) hi hj e)
      have HJ := hide (show ∀ r : Int, r = ((joinS 1073741789 1073741787 (nats l) (nats l) 0 : Nat) : Int) → JoinIs l r true from fun r h => .inl ⟨rfl, ⟨by rw [← unhide HL]; exact h1, by rw [← unhide HL]; exact hlen, unhide hok⟩, by rw [h, join_one _ _ _ _ _ (fun s hs => (nats_mem (unhide hok) hs).2)]⟩)
      generalize nats l = m at S2 HG HM HD HJ
      clear ha hok HS
      go_wp2_with fail
      go_loopw [8, 65] (fun u i w' => ∃ (n S : Nat), n ≤ k ∧ i = .int .i64 n ∧ u = .int .i64 S ∧ S < 1073741789 ∧ Hid (S = joinS 1073741789 1073741787 m (m.take n) 0) ∧ Hid (Below w.heap.size w w')) (fun _ i _ => k - (intOf i).toNat)
      case atStart => exact ⟨0, 0, Nat.zero_le _, rfl, rfl, by omega, hide rfl, hb⟩
      case round =>
        clear hb
        obtain ⟨n, S, hn, rfl, rfl, hS, eS, hb⟩ := hrel
        by_cases hlt2 : n < k
        · have hn' : n < m.length := by rw [← unhide HM]; exact hlt2
          have r := (unhide S2).keep (unhide hb)
          have p0 := r.c0 n (by rw [ints_len]; exact hn')
          have p1 := r.c1 n (by rw [ints_len]; exact hn')
          rw [ints_get] at p0 p1
          have hX := unhide HG _ (List.getElem_mem hn')
          have eT := hide (take_snoc m n hn')
          have hD1 := hide (fun j hj => unhide HD j n hj hn')
          generalize m[n] = s at p0 p1 hX eT hD1
          obtain ⟨X, Y⟩ := s
          simp only at p0 p1 hX hD1
          obtain ⟨hX, hY⟩ := hX
          have i0 : (0 : Int) ≤ (n : Int) := by omega
          have i1 : (n : Int) < (k : Int) := by omega
          have RS := hide (r.keep (bAl (Below.refl _ _) (.cells #[.int .i64 (X : Int), .int .i64 (Y : Int)] 52)))
          have BA := hide (bAl (unhide hb) (.cells #[.int .i64 (X : Int), .int .i64 (Y : Int)] 52))
          clear r
          have RA := hide (RowIs.new wr #[.int .i64 (X : Int), .int .i64 (Y : Int)] 52)
          go_wp2_with fail
          clear p0 p1
          generalize hWd : wr.alloc (.cells #[.int .i64 (X : Int), .int .i64 (Y : Int)] 52) = W at RS BA RA ⊢
          clear hWd
          go_loopw [11, 12, 74] (fun u v i w' => ∃ (j U D : Nat), j ≤ k ∧ i = .int .i64 j ∧ u = .int .i64 U ∧ v = .int .i64 D ∧ U < 1073741789 ∧ D < 1073741789 ∧ Hid (U = sk 1073741789 X (m.take j) Y) ∧ Hid (D = bl 1073741789 X (m.take j) 1) ∧ Hid (Below W.heap.size W w')) (fun _ _ i _ => k - (intOf i).toNat)
          case atStart => exact ⟨0, Y, 1, Nat.zero_le _, rfl, rfl, rfl, hY, by omega, hide rfl, hide rfl, hide (Below.refl _ _)⟩
          case round =>
            obtain ⟨j, U, D, hj, rfl, rfl, rfl, hU, hD, eU, eD, hb2⟩ := hrel
            by_cases hlt3 : j < k
            · have hj' : j < m.length := by rw [← unhide HM]; exact hlt3
              have r := (unhide RS).keep (unhide hb2)
              have p0 := r.c0 j (by rw [ints_len]; exact hj')
              have p1 := r.c1 j (by rw [ints_len]; exact hj')
              rw [ints_get] at p0 p1
              have hX2 := unhide HG _ (List.getElem_mem hj')
              have eT2 := hide (take_snoc m j hj')
              have hne := hide (unhide hD1 j hj')
              have hsm := hide (show j = n → m[j].1 = X by
                intro e
                subst e
                have h3 := unhide eT
                have h4 := unhide eT2
                rw [h4] at h3
                have h5 := List.append_cancel_left h3
                simp at h5
                rw [h5])
              generalize m[j] = s at p0 p1 hX2 eT2 hne hsm
              obtain ⟨X2, Y2⟩ := s
              simp only at p0 p1 hX2 hne hsm
              obtain ⟨hX2, _⟩ := hX2
              have j0 : (0 : Int) ≤ (j : Int) := by omega
              have j1 : (j : Int) < (k : Int) := by omega
              have q0 := hide ((((unhide RA).keep (unhide hb2)).keep (bAl (Below.refl _ _) (.cells #[.int .i64 (X2 : Int), .int .i64 (Y2 : Int)] 52))).at (o := 0) (v := .int .i64 (X : Int)) rfl)
              have zr := hide (((unhide RA).keep (unhide hb2)).lt)
              have B2 := hide (bAl (unhide hb2) (.cells #[.int .i64 (X2 : Int), .int .i64 (Y2 : Int)] 52))
              clear r
              by_cases hjn : j = n
              · have hx := hide (unhide hsm hjn)
                have dn : ((j : Int) != (n : Int)) = false := by simp; omega
                clear hsm hne hjn
                go_wp2_with fail
                exact ⟨⟨j + 1, U, D, by omega, by go_num, rfl, rfl, hU, hD, hide (by rw [unhide eT2, sk_snoc, if_pos (unhide hx)]; exact unhide eU), hide (by rw [unhide eT2, bl_snoc, if_pos (unhide hx)]; exact unhide eD), B2⟩, by simp [intOf]; omega⟩
              · have hx : Hid (¬ X2 = X) := hide (fun h => hjn (unhide hne h))
                have dn : ((j : Int) != (n : Int)) = true := by simp; omega
                obtain ⟨Z, hZ⟩ : ∃ Z, 1073741789 + X2 - X = Z := ⟨_, rfl⟩
                have hZc : (X2 : Int) - (X : Int) + 1073741789 = (Z : Int) := by omega
                obtain ⟨V, hV⟩ : ∃ V, Z % 1073741789 = V := ⟨_, rfl⟩
                have hVl : V < 1073741789 := by rw [← hV]; exact Nat.mod_lt _ (by omega)
                have hVc : (Z : Int) % 1073741789 = (V : Int) := by rw [← hV]; simp
                have m1 := mul_ok hU hX2 (by omega)
                have m2 := mul_ok hD hVl (by omega)
                have q1 := unhide q0
                have HZ := hide hZ
                have HV := hide hV
                clear hZ hV hsm hne
                go_wp2_with fail
                have e1 : ((U * X2 % 1073741789 : Nat) : Int) = (U : Int) * (X2 : Int) % 1073741789 := by simp
                have e2 : ((D * V % 1073741789 : Nat) : Int) = (D : Int) * (V : Int) % 1073741789 := by simp
                refine ⟨⟨j + 1, U * X2 % 1073741789, D * V % 1073741789, by omega, by go_num, by rw [e1], by rw [e2], Nat.mod_lt _ (by omega), Nat.mod_lt _ (by omega), hide ?_, hide ?_, B2⟩, by simp [intOf]; omega⟩
                · rw [unhide eT2, sk_snoc, if_neg (unhide hx), ← unhide eU]
                · rw [unhide eT2, bl_snoc, if_neg (unhide hx), ← unhide eD, unhide HZ, ← unhide HV, Nat.mul_mod_mod]
            · obtain rfl : j = k := by omega
              have hV := hide (pw_lt D 1073741787 1073741789 (by omega))
              have hp := hide (fun w => sPower_any D 1073741787 1073741789 hD (by omega) (by omega) (by omega) w)
              have eV := hide (show (S + U * pw D 1073741787 1073741789) % 1073741789 = joinS 1073741789 1073741787 m (m.take (n + 1)) 0 by
                have e1 := unhide eU
                have e2 := unhide eD
                rw [unhide HM, List.take_length] at e1 e2
                rw [unhide eT, joinS_snoc, ← unhide eS, e1, e2])
              generalize pw D 1073741787 1073741789 = V at hV hp eV
              have m1 := mul_ok hU (unhide hV) (by omega)
              go_wp2_with fail
              refine (unhide hp _).mono ?_
              rintro e w2 ⟨rfl, rfl⟩
              go_wp2_with fail
              have e1 : (((S + U * V) % 1073741789 : Nat) : Int) = ((S : Int) + (U : Int) * (V : Int)) % 1073741789 := by simp
              exact ⟨⟨n + 1, (S + U * V) % 1073741789, by omega, by go_num, by rw [e1], Nat.mod_lt _ (by omega), eV, hide (bTr (unhide BA) (unhide hb2))⟩, by simp [intOf]; omega⟩
        · obtain rfl : n = k := by omega
          go_wp2_with fail
          go_ret2
          refine ⟨⟨_, true, rfl, unhide HJ _ ?_⟩, unhide hb⟩
          have := unhide eS
          rw [unhide HM, List.take_length] at this
          rw [← this]
end Go.Proofs.Ytcgodelkanifbaa

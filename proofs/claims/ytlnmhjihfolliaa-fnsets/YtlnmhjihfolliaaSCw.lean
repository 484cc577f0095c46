/- slices.Compact at atoms: the walk. -/
import Derived.Test.YtlnmhjihfolliaaSCm
namespace Go.Proofs.Ytlnmhjihfolliaa.V
open Go.RowKit
set_option maxRecDepth 20000
theorem s_ne {a b : ByteArray} (h : ¬ a = b) : (a.toList == b.toList) = false := by
  have : ¬ a.toList = b.toList := fun e => h (by
    rw [ByteArray.toList_eq, ByteArray.toList_eq] at e
    exact Go.WideShapes.bytes_inj e)
  simpa using this
theorem atom_ne {A C : AtomT} (h : ¬ A = C) : ¬ A.x = C.x ∨ (A.x = C.x ∧ ¬ A.n = C.n) ∨ (A.x = C.x ∧ A.n = C.n ∧ ¬ A.t = C.t) ∨ (A.x = C.x ∧ A.n = C.n ∧ A.t = C.t ∧ ¬ A.y = C.y) := by
  by_cases h1 : A.x = C.x
  · by_cases h2 : A.n = C.n
    · by_cases h3 : A.t = C.t
      · refine .inr (.inr (.inr ⟨h1, h2, h3, fun h4 => h ?_⟩))
        cases A; cases C
        simp only at h1 h2 h3 h4
        rw [h1, h2, h3, h4]
      · exact .inr (.inr (.inl ⟨h1, h2, h3⟩))
    · exact .inr (.inl ⟨h1, h2⟩)
  · exact .inl h1
set_option maxHeartbeats 2000000 in
theorem compact_any (l : List AtomT) (g cap base : Nat) (w : World) (hl : l.length ≤ 1000) (hs : Srt l) (ho : w.ownsRow base 26 4 (.slice (some ⟨g, 0, none⟩) l.length cap) l.length (atomsV l)) :
    Calls Try.prog 17 #[.slice (some ⟨g, 0, none⟩) l.length cap] w fun e w' => (∃ r : List AtomT, e = .returned (.slice (some ⟨g, 0, none⟩) r.length cap) ∧ Hid (SetR l r ∧ w'.ownsRow base 26 4 (.slice (some ⟨g, 0, none⟩) r.length cap) r.length (atomsV r))) ∧ Below base w w' := by
  have hcg : l.length ≤ cap ∧ base ≤ g := by
    rcases ho.2 with ⟨h', _⟩ | ⟨g', cap', cur, h', hb, hg, hnc, hcm, hcs, ht⟩
    · simp at h'
    · simp only [Value.slice.injEq, Option.some.injEq, Addr.mk.injEq, and_true, true_and] at h'
      obtain ⟨rfl, rfl⟩ := h'
      exact ⟨hnc, hb⟩
  obtain ⟨hcap, hbg⟩ := hcg
  by_cases h2 : l.length < 2
  · have fin := hide (show SetR l l ∧ w.ownsRow base 26 4 (.slice (some ⟨g, 0, none⟩) l.length cap) l.length (atomsV l) from ⟨setR_one h2, ho⟩)
    clear ho hs
    go_enter Try.func17, Try.ntmps17
    go_wp2_with fail
    go_ret
    exact ⟨⟨l, rfl, fin⟩, Below.refl _ _⟩
  · have HS := hide hs
    have O := hide ho
    have S1 := hide (show SetR (l.take 1) (l.take 1) from setR_one (by rw [List.length_take]; omega))
    have HL : Hid (l.length = l.length) := hide rfl
    clear hs ho
    go_enter Try.func17, Try.ntmps17
    go_wp2_with fail
    go_loopw [3] (fun i wx => ∃ k : Nat, 1 ≤ k ∧ k ≤ l.length ∧ i = .int .i64 k ∧ Hid (SetR (l.take k) (l.take k)) ∧ Hid (wx.ownsRow base 26 4 (.slice (some ⟨g, 0, none⟩) l.length cap) l.length (atomsV l)) ∧ Hid (Below base w wx)) (fun i _ => l.length - (intOf i).toNat)
    case atStart => exact ⟨1, Nat.le_refl _, by omega, rfl, S1, O, hide (Below.refl _ _)⟩
    case round =>
      clear O S1
      obtain ⟨k, hk1, hk, rfl, hR, hO, hB⟩ := hrel
      by_cases hlt : k < l.length
      · obtain ⟨m, hm⟩ : ∃ m, k - 1 = m := ⟨_, rfl⟩
        have hm' : m < l.length := by omega
        obtain ⟨a0, a1, a2, a3⟩ := own_four (unhide hO) rfl k hlt
        obtain ⟨b0, b1, b2, b3⟩ := own_four (unhide hO) rfl m hm'
        have ej : IntKind.i64.wrap ((k : Int) - 1) = (m : Int) := by rw [IntKind.wrap_i64]; omega
        obtain ⟨A, hA⟩ : ∃ A, l[k] = A := ⟨_, rfl⟩
        obtain ⟨C, hC⟩ : ∃ C, l[m] = C := ⟨_, rfl⟩
        rw [hA] at a0 a1 a2 a3
        rw [hC] at b0 b1 b2 b3
        have HM := hide hm
        clear hm
        by_cases e : A = C
        · subst e
          have EQ := hide (show l[k] = l[k - 1]'(by omega) by rw [hA, ← hC]; congr 1; exact (unhide HM).symm)
          have O1 := hide (fun n => own_keepT (unhide hO) (below_drewN (Below.refl wr.heap.size wr) n))
          have B1 := hide (fun n => below_drewN (unhide hB) n)
          have CS := hide (CmpAt.start (by omega) hlt (unhide hR) (unhide EQ))
          clear hO hB hR EQ hA hC
          have i1 : (k : Int) ≤ (l.length : Int) := by omega
          go_wp2_with fail
          go_quiet (fail)
          obtain ⟨W1, hW1⟩ : ∃ W1, wr.drewN nq = W1 := ⟨_, rfl⟩
          have O2 := hide (unhide O1 nq)
          have B2 := hide (unhide B1 nq)
          rw [hW1] at O2 B2 ⊢
          clear hW1 O1 B1 a0 a1 a2 a3 b0 b1 b2 b3 ej
          go_wp2_with fail
          go_loopw [3, 5] (fun i j wx => ∃ (kk k2 : Nat) (M : List AtomT), i = .int .i64 kk ∧ j = .int .i64 k2 ∧ 1 ≤ k2 ∧ k + k2 ≤ l.length ∧ Hid (CmpAt l (k + k2) kk M) ∧ Hid (wx.ownsRow base 26 4 (.slice (some ⟨g, 0, none⟩) l.length cap) l.length (atomsV M)) ∧ Hid (Below base w wx)) (fun _ j _ => l.length - k - (intOf j).toNat)
          case atStart => exact ⟨k, 1, l, rfl, rfl, Nat.le_refl _, by omega, CS, O2, B2⟩
          case round =>
            clear CS O2 B2
            obtain ⟨kk, k2, M, rfl, rfl, h21, h2l, hCA, hO, hB⟩ := hrel
            have hkk := (unhide hCA).lt
            have hML := (unhide hCA).len
            by_cases hlt2 : k + k2 < l.length
            · obtain ⟨n, hn⟩ : ∃ n, k2 - 1 = n := ⟨_, rfl⟩
              have hj : k + k2 < M.length := by omega
              have hj' : k + n < M.length := by omega
              obtain ⟨a0, a1, a2, a3⟩ := own_four (unhide hO) hML.symm (k + k2) hj
              obtain ⟨b0, b1, b2, b3⟩ := own_four (unhide hO) hML.symm (k + n) hj'
              have eA : M[k + k2] = l[k + k2] := (unhide hCA).rest _ (by omega) hj (by omega)
              have eC : M[k + n] = l[k + n]'(by omega) := (unhide hCA).rest _ (by omega) hj' (by omega)
              rw [eA] at a0 a1 a2 a3
              rw [eC] at b0 b1 b2 b3
              have c1 : (k + k2) * 4 = k * 4 + k2 * 4 := by omega
              have c2 : (k + n) * 4 = k * 4 + n * 4 := by omega
              rw [c1] at a0 a1 a2 a3
              rw [c2] at b0 b1 b2 b3
              clear c1 c2 eA eC
              have ej : IntKind.i64.wrap ((k2 : Int) - 1) = (n : Int) := by rw [IntKind.wrap_i64]; omega
              have hn2 : n < l.length - k := by omega
              have hk2 : k2 < l.length - k := by omega
              obtain ⟨A, hA⟩ : ∃ A, l[k + k2] = A := ⟨_, rfl⟩
              obtain ⟨C, hC⟩ : ∃ C, l[k + n]'(by omega) = C := ⟨_, rfl⟩
              rw [hA] at a0 a1 a2 a3
              rw [hC] at b0 b1 b2 b3
              have HN := hide hn
              clear hn
              by_cases e : A = C
              · subst e
                have EQ := hide (show l[k + k2] = l[k + k2 - 1]'(by omega) by rw [hA, ← hC]; congr 1; have := unhide HN; omega)
                have O1 := hide (fun n => own_keepT (unhide hO) (below_drewN (Below.refl wr.heap.size wr) n))
                have B1 := hide (fun n => below_drewN (unhide hB) n)
                have CS := hide ((unhide hCA).skip hlt2 (unhide EQ))
                clear hO hB hCA EQ hA hC
                go_wp2_with fail
                go_quiet (fail)
                go_wp2_with fail
                exact ⟨⟨kk, k2 + 1, M, rfl, by go_num, by omega, by omega, CS, hide (unhide O1 _), hide (unhide B1 _)⟩, by simp [intOf]; omega⟩
              · have NE := hide (show ¬ l[k + k2] = l[k + k2 - 1]'(by omega) from fun h => e (by rw [← hA, ← hC, h]; congr 1; have := unhide HN; omega))
                have CS := hide (show CmpAt l (k + k2 + 1) (kk + 1) (M.set kk A) by rw [← hA]; exact (unhide hCA).keep (unhide HS) hlt2 (unhide NE))
                have hkM : kk < M.length := by omega
                have hkl : kk < l.length := by omega
                have O1 := hide (fun n => (own_store4 (own_keepT (unhide hO) (below_drewN (Below.refl wr.heap.size wr) n)) kk A hkM))
                have B1 := hide (fun n => below_drewN (unhide hB) n)
                obtain ⟨k0, k1, k3, k4⟩ := own_four (unhide hO) hML.symm kk hkM
                have z0 := (unhide hO).frozenAt (kk * 4)
                have z1 := (unhide hO).frozenAt (kk * 4 + 1)
                have z2 := (unhide hO).frozenAt (kk * 4 + 2)
                have z3 := (unhide hO).frozenAt (kk * 4 + 3)
                generalize M[kk] = Q at k0 k1 k3 k4
                clear hO hB hCA NE hA hC
                have zb := hide (show base ≤ wr.heap.size by have := World.block_lt_of_cell? wr _ k0; simp at this; omega)
                rcases atom_ne e with h | ⟨h0, h⟩ | ⟨h0, h1, h⟩ | ⟨h0, h1, h4, h⟩
                · have f : (A.x == C.x) = false := by simpa using h
                  clear e
                  go_wp2_with fail
                  go_quiet (fail)
                  go_wp2_with fail
                  exact ⟨⟨kk + 1, k2 + 1, M.set kk A, by go_num, by go_num, by omega, by omega, CS, hide (unhide O1 _).1, hide ((unhide B1 _).grown (unhide O1 _).2 (unhide zb) (fun j h => by cases h; exact hbg))⟩, by simp [intOf]; omega⟩
                · have f : (A.n == C.n) = false := by simpa using h
                  rw [← h0] at b0
                  clear e h0
                  go_wp2_with fail
                  go_quiet (fail)
                  go_wp2_with fail
                  exact ⟨⟨kk + 1, k2 + 1, M.set kk A, by go_num, by go_num, by omega, by omega, CS, hide (unhide O1 _).1, hide ((unhide B1 _).grown (unhide O1 _).2 (unhide zb) (fun j h => by cases h; exact hbg))⟩, by simp [intOf]; omega⟩
                · have f := s_ne h
                  rw [← h0] at b0
                  rw [← h1] at b1
                  clear e h0 h1
                  go_wp2_with fail
                  go_quiet (fail)
                  go_wp2_with fail
                  exact ⟨⟨kk + 1, k2 + 1, M.set kk A, by go_num, by go_num, by omega, by omega, CS, hide (unhide O1 _).1, hide ((unhide B1 _).grown (unhide O1 _).2 (unhide zb) (fun j h => by cases h; exact hbg))⟩, by simp [intOf]; omega⟩
                · have f := s_ne h
                  rw [← h0] at b0
                  rw [← h1] at b1
                  rw [← h4] at b2
                  clear e h0 h1 h4
                  go_wp2_with fail
                  go_quiet (fail)
                  go_wp2_with fail
                  exact ⟨⟨kk + 1, k2 + 1, M.set kk A, by go_num, by go_num, by omega, by omega, CS, hide (unhide O1 _).1, hide ((unhide B1 _).grown (unhide O1 _).2 (unhide zb) (fun j h => by cases h; exact hbg))⟩, by simp [intOf]; omega⟩
            · have ej : k + k2 = l.length := by omega
              have hkl : kk < l.length := by omega
              have hnf : 0 < l.length - kk := by omega
              have hcl := fun ty => run_clear_atoms wr ty g (kk * 4) (l.length - kk) (cap - kk) hnf (fun j hj => by
                have hlen : (atomsV M).length = l.length * 4 := by rw [atomsV_len, hML]
                rw [(unhide hO).cellAt (kk * 4 + j) (by omega), List.getElem?_eq_getElem (by omega)]; rfl) (fun j hj => (unhide hO).frozenAt _)
              obtain ⟨vs, hvs⟩ : ∃ vs, ∀ ty, (Builtin.clear_ #[23] ty #[.slice (some ⟨g, kk * 4, none⟩) (l.length - kk) (cap - kk)]).run Try.prog wr = .ok (.tuple #[]) (wr.setCells g (kk * 4) vs) := by
                obtain ⟨vs, h⟩ := hcl 0
                exact ⟨vs, fun ty => h⟩
              obtain ⟨ys, y1, y2, y3⟩ := own_setCellsK vs (kk * 4) wr (atomsV M) (unhide hO)
              have hkM : kk ≤ M.length := by omega
              have z2 := own_cutK (i := kk) y1 (by omega)
              rw [y2 (kk * 4) (Nat.le_refl _), take_atoms M kk hkM] at z2
              have hlk : (M.take kk).length = kk := by rw [List.length_take]; omega
              have zb : base ≤ wr.heap.size := by have := ((unhide hO).lt g rfl).2; omega
              have fin := hide (show (SetR l (M.take kk) ∧ (wr.setCells g (kk * 4) vs).ownsRow base 26 4 (.slice (some ⟨g, 0, none⟩) (M.take kk).length cap) (M.take kk).length (atomsV (M.take kk))) ∧ Below base w (wr.setCells g (kk * 4) vs) from ⟨⟨by
                have := (unhide hCA).beg
                rwa [ej, List.take_length] at this, by rw [hlk]; exact z2⟩, (unhide hB).grown y3 zb (fun j h => by cases h; exact hbg)⟩)
              have HLK := hide hlk
              clear y1 y2 y3 z2 hlk hO hB hCA hcl zb
              have i1 : (kk : Int) ≤ (l.length : Int) := by omega
              have i2 : (kk : Int) ≤ (cap : Int) := by omega
              have i3 : kk ≤ cap := by omega
              have i4 : kk ≤ l.length := by omega
              go_wp2_with fail
              go_ret
              refine ⟨⟨M.take kk, ?_, hide (unhide fin).1⟩, (unhide fin).2⟩
              rw [unhide HLK]; rfl
        · have NE := hide (show ¬ l[k] = l[k - 1]'(by omega) from fun h => e (by rw [← hA, ← hC, h]; congr 1))
          have O1 := hide (fun n => own_keepT (unhide hO) (below_drewN (Below.refl wr.heap.size wr) n))
          have B1 := hide (fun n => below_drewN (unhide hB) n)
          have R2 := hide (show SetR (l.take (k + 1)) (l.take (k + 1)) by
            rw [List.take_succ_eq_append_getElem hlt]
            exact (unhide hR).snoc ((unhide HS).less hlt (by omega) (unhide NE)))
          clear hA hC hO hB hR NE
          rcases atom_ne e with h | ⟨h0, h⟩ | ⟨h0, h1, h⟩ | ⟨h0, h1, h4, h⟩
          · have f : (A.x == C.x) = false := by simpa using h
            clear e
            go_wp2_with fail
            go_quiet (fail)
            go_wp2_with fail
            exact ⟨⟨k + 1, by omega, by omega, by go_num, R2, hide (unhide O1 _), hide (unhide B1 _)⟩, by simp [intOf]; omega⟩
          · have f : (A.n == C.n) = false := by simpa using h
            rw [h0] at a0
            clear e h0
            go_wp2_with fail
            go_quiet (fail)
            go_wp2_with fail
            exact ⟨⟨k + 1, by omega, by omega, by go_num, R2, hide (unhide O1 _), hide (unhide B1 _)⟩, by simp [intOf]; omega⟩
          · have f := s_ne h
            rw [h0] at a0
            rw [h1] at a1
            clear e h0 h1
            go_wp2_with fail
            go_quiet (fail)
            go_wp2_with fail
            exact ⟨⟨k + 1, by omega, by omega, by go_num, R2, hide (unhide O1 _), hide (unhide B1 _)⟩, by simp [intOf]; omega⟩
          · have f := s_ne h
            rw [h0] at a0
            rw [h1] at a1
            rw [h4] at a2
            clear e h0 h1 h4
            go_wp2_with fail
            go_quiet (fail)
            go_wp2_with fail
            exact ⟨⟨k + 1, by omega, by omega, by go_num, R2, hide (unhide O1 _), hide (unhide B1 _)⟩, by simp [intOf]; omega⟩
      · have ek : k = l.length := by omega
        subst ek
        have fin := hide (show SetR l l ∧ wr.ownsRow base 26 4 (.slice (some ⟨g, 0, none⟩) l.length cap) l.length (atomsV l) from ⟨by have := unhide hR; rwa [List.take_length] at this, unhide hO⟩)
        go_wp2_with fail
        go_ret
        exact ⟨⟨l, rfl, fin⟩, unhide hB⟩
end Go.Proofs.Ytlnmhjihfolliaa.V

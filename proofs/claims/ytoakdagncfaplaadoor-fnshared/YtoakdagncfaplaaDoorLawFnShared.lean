/- The row and the card of laws.FnShared: its walk, then the row's step. -/
import Derived.Test.YtoakdagncfaplaaDoorRows
import Derived.Test.YtoakdagncfaplaaDoorCards
import Derived.Test.YtoakdagncfaplaaDoorTie
import Derived.Test.YtoakdagncfaplaaDoorDLawKit
import Derived.Test.YtoakdagncfaplaaDoorPsF
import Derived.Test.YtoakdagncfaplaaDoorPsD
import Derived.Test.YtoakdagncfaplaaDoorDIn
import Derived.Test.YtoakdagncfaplaaDoorDLawKit
import Derived.WalkKit
import Derived.ProofKit
import Derived.OpenShut
import Derived.ShutString
import Derived.ChangeOld
import Derived.Below
import Derived.Lib.SmallJoins
import Derived.LaidMore
import Derived.ChangeVars
import Derived.SevenTiedAt
import Derived.Stop.Joined
namespace Go.Proofs.YtoakdagncfaplaaDoor.D.fnShared
open Go.ChangeShapes Go.WideShapes Go.ChangeAt Go.RowKit Go.Joins
set_option linter.unusedVariables false

set_option maxRecDepth 100000 in
set_option maxHeartbeats 1000000 in
theorem walk (a : Option Addr) (len cap : Nat) (zs : List Int) (a2 : Option Addr) (len2 cap2 : Nat) (zs2 : List Int) (w : World) (hr : IsRow .u8 w a len cap zs) (hr2 : IsRow .u8 w a2 len2 cap2 zs2) (hM : Mults w) :
    Calls Tryd.prog 3 #[.slice a len cap, .slice a2 len2 cap2] w fun e w' => e = .returned (.bool true) ∧ Below w.heap.size w w' := by
  obtain ⟨i0, hi, hz0, hz1, hz2⟩ := info_parts info_Share
  have hc := code_of hr
  have hc2 := code_of hr2
  clear hr hr2
  have hl := hc.1
  have hl2 := hc2.1
  unfold maxLen at hl hl2
  have HC := hide hc
  have HM := hide hM
  have h00 := hM.1
  clear hc hc2 hM
  by_cases h1 : (1048576 : Int) < (len : Int)
  · go_enter Tryd.func3, Tryd.ntmps3
    go_wp2_with fail
    go_ret
    exact ⟨rfl, Below.refl _ _⟩
  by_cases h2 : (1048576 : Int) < (len2 : Int)
  · go_enter Tryd.func3, Tryd.ntmps3
    go_wp2_with fail
    go_ret
    exact ⟨rfl, Below.refl _ _⟩
  have h1' : len ≤ 1048576 := by omega
  have h2' : len2 ≤ 1048576 := by omega
  clear hl hl2
  go_enter Tryd.func3, Tryd.ntmps3
  go_wp2_with fail
  refine (drawSplit_any a len cap _ (unhide HC)).mono ?_
  rintro e w1 ⟨s, many, need, v, D, hD, rfl, ho1, hb1⟩
  obtain ⟨ad, cd, rfl, hs1⟩ := own_sl ho1
  have S1 := hide hs1
  have B1 := hide hb1
  have hD2 : D.length ≤ 1048576 := by omega
  clear ho1 hs1 hb1 HC hD
  go_wp2_with fail
  refine (iSplit_any s many need ad D.length cd D _ hD2 (unhide S1) ((unhide HM).keepB (unhide B1) h00)).mono ?_
  rintro e w2 ⟨⟨v1, r, rfl, hP1, ho2⟩, hb2⟩
  have P1 := hide hP1
  have rl := hP1.len
  have O2 := hide ho2
  have B2 := hide (bTr (unhide B1) hb2)
  have S2 := hide (((unhide S1).keep hb2).mono hb2.size)
  clear hP1 ho2 hb2 B1 S1
  go_wp2_with fail
  refine (sSplit_any s many need ad D.length cd D _ hD2 (unhide S2)).mono ?_
  rintro e w3 ⟨⟨v2, r3, rfl, hP3, ho3⟩, hb3⟩
  obtain rfl := hP3.uniq (unhide P1)
  have O3 := hide (own_kB (unhide O2) hb3)
  have B3 := hide (bTr (unhide B2) hb3)
  obtain ⟨al, cl, el, hsl⟩ := own_Share (unhide O3)
  obtain ⟨aw, cw, ew, hsw⟩ := own_Share ho3
  subst el ew
  have SL := hide hsl
  have SW := hide hsw
  obtain ⟨rn, hrn⟩ : ∃ rn, r3.length = rn := ⟨_, rfl⟩
  rw [hrn] at SL SW O3 rl ⊢
  have HRN := hide hrn
  clear hP3 ho3 hb3 B2 S2 O2 hsl hsw hrn
  go_wp2_with fail
  go_loopw [51] (fun i w' => ∃ k : Nat, k ≤ rn ∧ i = .int .i64 k ∧ Hid (Below w3.heap.size w3 w')) (fun i _ => rn - (Go.RowKit.intOf i).toNat)
  case atStart => exact ⟨0, Nat.zero_le _, rfl, hide (Below.refl _ _)⟩
  case round =>
    obtain ⟨k, hk, rfl, hb⟩ := hrel
    by_cases hlt : k < rn
    · obtain ⟨b1, o1, rfl, row1⟩ := ((unhide SL).keep (unhide hb)).at hlt
      obtain ⟨b2, o2, rfl, row2⟩ := ((unhide SW).keep (unhide hb)).at hlt
      have hk' : k < r3.length := by rw [unhide HRN]; exact hlt
      have x0 := row1.c0 k hk'
      have x1 := row1.c1 k hk'
      have y0 := row2.c0 k hk'
      have y1 := row2.c1 k hk'
      generalize r3[k] = q at x0 x1 y0 y1
      obtain ⟨q0, q1⟩ := q
      simp only at x0 x1 y0 y1
      have zb1 : b1 < wr.heap.size := World.block_lt_of_cell? wr _ x0
      have zb2 : b2 < wr.heap.size := World.block_lt_of_cell? wr _ y0
      have ne : Nonempty (Kept wr) := ⟨⟨wr, Below.refl _ _⟩⟩
      have f0 := fun k : Kept wr => kept_cell (p := ⟨b1, _, none⟩) zb1 x0 k
      have f1 := fun k : Kept wr => kept_cell (p := ⟨b1, _, none⟩) zb1 x1 k
      have f2 := fun k : Kept wr => kept_cell (p := ⟨b2, _, none⟩) zb2 y0 k
      have f3 := fun k : Kept wr => kept_cell (p := ⟨b2, _, none⟩) zb2 y1 k
      have j0 : (0 : Int) ≤ (k : Int) := by omega
      have j1 : (k : Int) < (rn : Int) := by omega
      clear row1 row2 x0 x1 y0 y1 zb1 zb2
      go_wp2_with fail
      refine wp_region_kept (by kernel_rfl) (by kernel_rfl) ?_
      repeat (first
        | go_big_quiet_step (fail)
        | quiet_step (fail))
      refine wpQuiet_nil ?_
      rintro _ ⟨y, rfl⟩
      obtain ⟨w4, hb4⟩ := y
      go_wp2_with fail
      exact ⟨⟨k + 1, by omega, by go_num, hide (bTr (unhide hb) hb4)⟩, by simp [Go.RowKit.intOf]; omega⟩
    · obtain rfl : k = rn := by omega
      clear hlt SL SW
      have O4 := hide (own_kB (unhide O3) (unhide hb))
      have B4 := hide (bTr (unhide B3) (unhide hb))
      clear O3 hb B3
      by_cases hz : k = 0
      · subst hz
        go_wp2_with fail
        go_ret
        exact ⟨rfl, unhide B4⟩
      obtain ⟨mn, nd, rfl, rfl, hnd, hmn, hs, hr⟩ := (unhide P1).out (by rw [unhide HRN]; exact hz)
      have hkm : k = mn := by rw [← unhide HRN, hr]; simp
      subst hkm
      obtain ⟨g, cg, eg, hcg, rowL⟩ := own_sh (l := r3) (by rw [unhide HRN]; exact unhide O4) (by rw [unhide HRN]; omega)
      rw [unhide HRN] at eg hcg
      simp only [Value.slice.injEq, true_and] at eg
      obtain ⟨rfl, rfl⟩ := eg
      have RL := hide rowL
      have HR := hide hr
      obtain ⟨t, ht⟩ : ∃ t : Nat, t = len2 % k := ⟨_, rfl⟩
      have HAT := hide (show ((len2 : Int) % (k : Int)) = (t : Int) by rw [ht, Int.natCast_emod])
      obtain ⟨N, hN⟩ : ∃ N : Nat, N = nd + 1 := ⟨_, rfl⟩
      rw [← hN] at hnd ⊢
      have HN := hide hN
      clear hN
      have t20 : t < k := by rw [ht]; exact Nat.mod_lt _ (by omega)
      have kz : ¬ (k : Int) = 0 := by omega
      have kb : ((k : Int) == 0) = false := by simp; omega
      clear rowL hr ht O4
      obtain ⟨W5, rfl⟩ : ∃ W5, W5 = wr := ⟨_, rfl⟩
      go_wp2_with fail
      rw [unhide HAT]
      clear HAT
      go_loopw [12, 14] (fun v i w' => ∃ m : Nat, m ≤ N ∧ i = .int .i64 m ∧ Hid (w'.ownsRow W5.heap.size 28 2 v m (SharesV ((rg t k m).map (elS s D nd)))) ∧ Hid (Below W5.heap.size W5 w')) (fun _ i _ => N - (Go.RowKit.intOf i).toNat)
      case atStart => exact ⟨0, Nat.zero_le _, rfl, hide (World.ownsRow_nil _ _ _ _), hide (Below.refl _ _)⟩
      case round =>
        obtain ⟨m, hm, rfl, ho, hb⟩ := hrel
        by_cases hlt : m < N
        · obtain ⟨J, hJ⟩ : ∃ J : Nat, J = (t + m) % k := ⟨_, rfl⟩
          have eJ : ((t : Int) + (m : Int)) % (k : Int) = (J : Int) := by rw [hJ, ← Int.natCast_add, ← Int.natCast_emod]
          have Jk : J < k := by rw [hJ]; exact Nat.mod_lt _ (by omega)
          have hJ' : J < r3.length := by rw [unhide HRN]; exact Jk
          have row := (unhide RL).keep (unhide hb)
          have c0 := row.c0 J hJ'
          have c1 := row.c1 J hJ'
          have er : r3[J] = elS s D nd J := by simp [unhide HR]
          rw [er] at c0 c1
          have SN : Hid (SharesV ((rg t k (m + 1)).map (elS s D nd)) = SharesV ((rg t k m).map (elS s D nd)) ++ encShare (elS s D nd J)) := hide (by rw [rg_snoc, List.map_append, ← hJ]; exact SharesV_snoc _ _)
          obtain ⟨q, hq⟩ : ∃ q, elS s D nd J = q := ⟨_, rfl⟩
          rw [hq] at c0 c1 SN
          obtain ⟨q0, q1⟩ := q
          simp only [Nat.zero_add] at c0 c1
          have j0 : (0 : Int) ≤ (J : Int) := by omega
          have j1 : (J : Int) < (k : Int) := by omega
          have j2 : (m : Int) < (N : Int) := by omega
          clear row er hq hJ hJ'
          go_wp2_with (at_builtin; refine wpList_append_own _ rfl _ _ 25 rfl W5.heap.size 28 i0 _ 2 16 Tryd.underlying25 hi hz0 hz1 hz2 rfl (by decide) _ _ _ rfl ((unhide ho).alloc _) ⟨_, 0, none⟩ 1 1 [.int .i64 q0, .int .i64 q1] rfl rfl (cell_two_new _ _ _ _) (fun x hx => by simp at hx; rcases hx with rfl | rfl <;> rfl) (by unfold maxLen; omega) (by omega) (by have := (unhide hb).size; simp; omega) ?_; intro v' w4 hown1 hgrow1 _)
          refine ⟨⟨m + 1, by omega, by go_num, hide ?_, hide ((bAl (unhide hb) _).grown hgrow1 (by have := (unhide hb).size; simp; omega) (fun j hj => ((unhide ho).lt j hj).1))⟩, by simp [Go.RowKit.intOf]; omega⟩
          rw [unhide SN]
          exact hown1
        · obtain rfl : m = N := by omega
          have j2 : ¬ (m : Int) < (m : Int) := by omega
          have el : ((rg t k m).map (elS s D nd)).length = m := by rw [List.length_map, rg_len]
          obtain ⟨g2, cg2, eg2, hcg2, row2⟩ := own_sh (l := (rg t k m).map (elS s D nd)) (by rw [el]; exact unhide ho) (by rw [el, unhide HN]; omega)
          rw [el] at eg2 hcg2
          subst eg2
          have R2 := hide (sh_row row2)
          have RL2 := hide (sh_row ((unhide RL).keep (unhide hb)))
          have B6 := hide (bTr (unhide B4) (unhide hb))
          clear ho hb row2
          go_wp2_with fail
          refine (iJoin_sum g2 0 m cg2 _ _ (by rw [toP_len, el]) (by rw [unhide HN]; omega) (by omega) hcg2 (unhide R2)).mono ?_
          rintro e w7 ⟨⟨x, ok, rfl, hj⟩, hb7⟩
          obtain ⟨rfl, rfl⟩ := join_el s hs D nd (rg t k m) (ring_nodup t k m hnd) (fun j hj => by obtain ⟨i, _, rfl⟩ := List.mem_map.1 hj; have := Nat.mod_lt (t + i) (show 0 < k by omega); omega) (by rw [rg_len, unhide HN]; exact Nat.le_refl _) (by rw [rg_len]; omega) hj
          have RL3 := hide ((unhide RL2).keep hb7)
          have B7 := hide (bTr (unhide B6) hb7)
          clear hj hb7 R2 RL2 B6
          go_wp2_with fail
          refine (iJoin_sum g 0 k cl _ _ (by rw [toP_len, unhide HRN]) (by omega) (by omega) hcg (unhide RL3)).mono ?_
          rintro e w8 ⟨⟨y, ok2, rfl, hj⟩, hb8⟩
          rw [unhide HR] at hj
          obtain ⟨rfl, rfl⟩ := join_el x hs D nd (List.range k) List.nodup_range (fun j hj => by have := List.mem_range.1 hj; omega) (by rw [List.length_range, ← unhide HN]; exact hnd) (by rw [List.length_range]; omega) hj
          have B8 := hide (bTr (unhide B7) hb8)
          clear hj hb8 B7
          go_wp2_with fail
          go_ret
          exact ⟨rfl, unhide B8⟩

set_option maxRecDepth 100000 in
theorem lifted (os : Os) (started : os.Started) (H : Type) (enc : TypeId × Value → H) :
    ReturnsInHanded {} Tryd.checked os 3 .any (fun w args => (Rows.fnSharedSpec.pre enc Tryd.prog Tryd.f3 [] false w args ∧ laidMetH Tryd.prog [("loop.example/g00036/impl.multipliers", Rows.laid_loop_example_g00036_impl_multipliers)] w) ∧ sizedMet enc Tryd.prog Tryd.f3 (OpenSpec.ofChange Rows.fnSharedSpec) false w args)
      (Rows.fnSharedSpec.post enc Tryd.prog Tryd.f3 false true false false) := by
  refine returnsInHanded_of_change_and (C := Tryd.checked) (X := fun w _ => laidMetH Tryd.prog [("loop.example/g00036/impl.multipliers", Rows.laid_loop_example_g00036_impl_multipliers)] w) (fun _ _ _ hh h => h.of_heap hh) own started (by kernel_rfl) Tryd.func3
    (ChangeSpec.witness_shaped (enc := enc) (C := Tryd.checked) (os := os) (X := fun w _ => laidMetH Tryd.prog [("loop.example/g00036/impl.multipliers", Rows.laid_loop_example_g00036_impl_multipliers)] w) false (World.doorLaid Tryd.prog 400 os) #[.slice none 0 0, .slice none 0 0] 8 rfl (World.shaped_of_RefB (by kernel_rfl) (by kernel_rfl)) (by kernel_rfl) (by kernel_rfl) (by kernel_rfl) (door_met os _)) ?_
  intro W base args ds gs before hval0 hW _ _ hL _
  have hval : ∀ (j : Nat) t v, Tryd.f3.params[j]? = some t → args[j]? = some v → Value.okWide Tryd.prog W .any base t v := hval0
  have hW' := hW
  obtain ⟨p, q, hA0, hV0, rfl, hfz, hnd⟩ := hW
  have hA : DataW.TrodAll enc Tryd.prog W 0 (fun _ => true) true Tryd.f3.params.toList args.toList ds p := hA0
  have hV : DataW.TrodVars enc Tryd.prog W (fun _ => true) ["loop.example/g00036/impl.multipliers"] gs q := hV0
  rw [Tryd.params3] at hA hval
  obtain ⟨v0, vs0, d0, ds0, p0, q0, hargs, rfl, rfl, h0, r0⟩ := trodAll_cons hA
  obtain ⟨v1, vs1, d1, ds1, p1, q1, rfl, rfl, rfl, h1, r1⟩ := trodAll_cons r0
  obtain ⟨rfl, rfl, rfl⟩ := trodAll_nil r1
  obtain rfl : args = #[v0, v1] := by cases args; simp_all
  obtain ⟨g, t, cs, fuel, d, p', rfl, hg, ht, hvar, hd, rfl⟩ := trodVars_one hV
  obtain rfl := Option.some.inj (gMul.symm.trans hg)
  obtain rfl := Option.some.inj (tMul.symm.trans ht)
  obtain rfl : cs = cellsM := Option.some.inj (hvar.symm.trans (cells_of_laid hL))
  obtain ⟨rfl, rfl⟩ := DataW.Trod.unique (v := .agg cellsM) ⟨fuel, hd⟩ ⟨3, reads_mul enc W _⟩
  obtain ⟨a0, len0, cap0, rfl⟩ := okWide_slice Tryd.underlying22 (hval 0 22 v0 rfl rfl)
  have k0 := h0
  have lt0 : ∀ x ∈ p0, x.block < W.heap.size := by obtain ⟨m, hm⟩ := k0; exact DataW.trod_lt m _ _ _ hm
  obtain ⟨z0, w0⟩ : ∃ zs, IsRow .u8 W a0 len0 cap0 zs := by
    obtain ⟨fuel, hf⟩ := h0
    rcases open_ints Tryd.underlying22 Tryd.underlying5 (by kernel_rfl) hf with ⟨hcs, _⟩ | ⟨x, l, c, zs, hcs, _, hl, hm, hz, _, hcell, hwz⟩
    · simp [Value.cells] at hcs
      obtain ⟨rfl, rfl, rfl⟩ := hcs
      exact ⟨[], .inl ⟨rfl, rfl, rfl, rfl⟩⟩
    · simp [Value.cells] at hcs
      obtain ⟨rfl, rfl, rfl⟩ := hcs
      exact ⟨zs, .inr ⟨_, rfl, hl, hm, by simpa using hz, hcell, hwz⟩⟩
  obtain ⟨a1, len1, cap1, rfl⟩ := okWide_slice Tryd.underlying22 (hval 1 22 v1 rfl rfl)
  have k1 := h1
  have lt1 : ∀ x ∈ p1, x.block < W.heap.size := by obtain ⟨m, hm⟩ := k1; exact DataW.trod_lt m _ _ _ hm
  obtain ⟨z1, w1⟩ : ∃ zs, IsRow .u8 W a1 len1 cap1 zs := by
    obtain ⟨fuel, hf⟩ := h1
    rcases open_ints Tryd.underlying22 Tryd.underlying5 (by kernel_rfl) hf with ⟨hcs, _⟩ | ⟨x, l, c, zs, hcs, _, hl, hm, hz, _, hcell, hwz⟩
    · simp [Value.cells] at hcs
      obtain ⟨rfl, rfl, rfl⟩ := hcs
      exact ⟨[], .inl ⟨rfl, rfl, rfl, rfl⟩⟩
    · simp [Value.cells] at hcs
      obtain ⟨rfl, rfl, rfl⟩ := hcs
      exact ⟨zs, .inr ⟨_, rfl, hl, hm, by simpa using hz, hcell, hwz⟩⟩
  clear hA0 hV0 hval0
  have hM := mults_of (cells_of_laid hL)
  refine (walk a0 len0 cap0 z0 a1 len1 cap1 z1 W w0 w1 hM).mono fun e W' ⟨he, bel⟩ => ?_
  subst he
  exact ⟨_, rfl, _, _, _, [], _, _, hW', trodAll_mk1 (shut_bool Tryd.underlying4 _), (trodAll_cons_mk (Below.trod laidOut (by kernel_rfl) (of_decide_eq_true (by kernel_rfl)) k0 bel lt0) (trodAll_cons_mk (Below.trod laidOut (by kernel_rfl) (of_decide_eq_true (by kernel_rfl)) k1 bel lt1) trodAll_mk0)), vars_kept enc (cells_of_laid hL) hM.1 bel, bel.frame _, fun h => by cases h⟩

theorem row : Rows.FnSharedSaid :=
  OpenClaim.holds_of_wide 3 Tryd.f3 rfl rfl rfl rfl rfl rfl rfl ⟨rfl, rfl, rfl, rfl, rfl⟩ rfl rfl rfl rfl rfl (by kernel_rfl) Tryd.func3 (by kernel_rfl)
    (of_decide_eq_true (by kernel_rfl)) (by unfold Func.isWrapper; first | (rw [if_pos (by decide +kernel)]; kernel_rfl) | (rw [if_neg (by decide +kernel)]; exact ⟨rfl, rfl⟩))
    (fun os started H enc _ => lifted os started H enc)
theorem card : Rows.FnSharedCardSaid :=
  Claim7.holds_tied_plain_at .later [] [.data] true (true, "509a75c2d78bf9b79d95e3d3bbc88125576c387db60cf4f9e2645743735aae66") false
    row (fun _ h => by cases h) (by kernel_rfl) (fun _ h => by cases h) fnShared_row_tie rfl ⟨rfl, rfl⟩ (by kernel_rfl) rfl
    (fun f fn hf hfn => by
      obtain rfl : f = 3 := Option.some.inj ((show Tryd.prog.funcNamed "loop.example/g00036/laws.FnShared" = some 3 by kernel_rfl).symm.trans hf) |>.symm
      obtain rfl : fn = Tryd.f3 := (Option.some.inj (Tryd.func3.symm.trans hfn)).symm
      exact ⟨by kernel_rfl, fun j t ht => by
        rw [Tryd.params3] at ht
        have hm : t ∈ [22, 22] := by simpa using Array.mem_of_getElem? ht
        have hall : ([22, 22].all fun u => !Tryd.prog.wantsStandIn u) = true := by kernel_rfl
        exact (show Tryd.prog.wantsStandIn t = false by simpa using List.all_eq_true.1 hall t hm)⟩)
    (by kernel_rfl)
end Go.Proofs.YtoakdagncfaplaaDoor.D.fnShared
namespace Go.Proofs.YtoakdagncfaplaaDoor
theorem fnShared_holds : Rows.FnSharedCardSaid := D.fnShared.card
end Go.Proofs.YtoakdagncfaplaaDoor

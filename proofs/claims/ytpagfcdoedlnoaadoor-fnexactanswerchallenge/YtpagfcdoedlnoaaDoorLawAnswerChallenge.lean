/- The row and the card of laws.FnExactAnswerChallenge: its walk, then the row's step. -/
import Derived.Test.YtpagfcdoedlnoaaDoorRows
import Derived.Test.YtpagfcdoedlnoaaDoorCards
import Derived.Test.YtpagfcdoedlnoaaDoorTie
import Derived.Test.YtpagfcdoedlnoaaDoorDLawKit
import Derived.Test.YtpagfcdoedlnoaaDoorKAa
import Derived.Test.YtpagfcdoedlnoaaDoorDIn
import Derived.WalkKit
import Derived.ProofKit
import Derived.OpenShut
import Derived.ShutString
import Derived.ChangeOld
import Derived.Below
import Derived.Lib.SmallJoins
import Derived.LaidMore
import Derived.ChangeVars
import Derived.SevenTiedAt
import Derived.Stop.Joined
namespace Go.Proofs.YtpagfcdoedlnoaaDoor.D.fnExactAnswerChallenge
open Go.ChangeShapes Go.WideShapes Go.ChangeAt Go.RowKit Go.Joins
set_option linter.unusedVariables false

theorem eqAnswer_same (o : ByteArray) (n : Int) (r z : Nat) (w : World) :
    Calls Tryd.prog 8 #[.agg #[.string o, .int .i64 n, .int .i64 r, .int .i64 z], .agg #[.string o, .int .i64 n, .int .i64 r, .int .i64 z]] w fun e w' => e = .returned (.bool true) ∧ Below w.heap.size w w' := by
  have q := hide (fun w => eqSig_any r z w)
  have k1 : (n != n) = false := by simp
  go_enter Tryd.func8, Tryd.ntmps8
  go_wp2_with (go_at_call 25; refine (unhide q _).mono ?_; rintro e w' ⟨rfl, hb⟩)
  go_ret
  exact ⟨rfl, bTr (bAl (bAl (Below.refl _ _) _) _) hb⟩
set_option maxHeartbeats 4000000 in
theorem walk (s : Int) (o : ByteArray) (a : Option Addr) (len cap : Nat) (zs : List Int) (n : Int) (w : World) (ws : (Lit.int .i64 s).wf = true) (ho : o.size ≤ maxLen) (hr : IsRow .u8 w a len cap zs) (wn : (Lit.int .i64 n).wf = true) (hM : Mults w) :
    Calls Tryd.prog 3 #[.int .i64 s, .string o, .slice a len cap, .int .i64 n] w fun e w' => e = .returned (.bool true) ∧ Below w.heap.size w w' := by
  obtain ⟨⟨l, hs⟩, hc, hm⟩ := bytes_in hr
  have hl : len ≤ maxLen := Nat.le_trans hc hm
  unfold maxLen at hl ho
  have HS := hide hs
  have hll := hide hs.1
  have HM := hide hM
  have h00 := hM.1
  clear hr hs hc hm hM ws wn
  by_cases h2 : (1048576 : Int) < (o.size : Int)
  · go_enter Tryd.func3, Tryd.ntmps3
    go_wp2_with fail
    go_ret
    exact ⟨rfl, Below.refl _ _⟩
  by_cases h1 : (1048576 : Int) < (len : Int)
  · go_enter Tryd.func3, Tryd.ntmps3
    go_wp2_with fail
    go_ret
    exact ⟨rfl, Below.refl _ _⟩
  have h1' : len ≤ 1048576 := by omega
  clear hl ho
  go_enter Tryd.func3, Tryd.ntmps3
  go_wp2_with fail
  refine (toByteS_any a len cap l w h1' (unhide HS)).mono ?_
  rintro e w1 ⟨rfl, r1, b1⟩
  have X1 := hide (slB_row r1 r1.lt)
  rw [← unhide hll] at X1
  have B1 := hide b1
  clear r1 b1
  go_wp2_with fail
  refine (sAnswerChallenge_any s o _ len len l n w1 (unhide X1)).mono ?_
  rintro e w2 ⟨⟨o', n', r, z, A1, rfl⟩, b2⟩
  have HA := hide A1
  obtain ⟨W2, hW2⟩ : ∃ W, W = w2.alloc (.cells #[.string o', .int .i64 n', .int .i64 r, .int .i64 z] 26) := ⟨_, rfl⟩
  have bx : Below w2.heap.size w2 W2 := by rw [hW2]; exact bAl (Below.refl _ _) _
  have R2 := hide (show RowIs W2 w2.heap.size #[.string o', .int .i64 n', .int .i64 r, .int .i64 z] 26 by rw [hW2]; exact RowIs.new _ _ _)
  have B2 := hide (bTr (bTr (unhide B1) b2) bx)
  have HW2 := hide hW2.symm
  obtain ⟨x2, hx2⟩ : ∃ b, b = w2.heap.size := ⟨_, rfl⟩
  have HX2 := hide hx2.symm
  rw [← hx2] at R2
  clear b2 B1 X1 A1 bx hW2 hx2
  go_wp2_with fail
  rw [unhide HW2, unhide HX2]
  refine (toByteS_any a len cap l W2 h1' (((unhide HS).keepB (unhide B2)).mono (unhide B2).size)).mono ?_
  rintro e w3 ⟨rfl, r3, b3⟩
  have X3 := hide (slB_row r3 r3.lt)
  rw [← unhide hll] at X3
  have B3 := hide (bTr (unhide B2) b3)
  have R3 := hide ((unhide R2).keep b3)
  obtain ⟨g3, hg3⟩ : ∃ g, g = W2.heap.size := ⟨_, rfl⟩
  rw [← hg3] at X3 ⊢
  clear r3 b3 B2 hg3 R2 HW2 HX2
  go_wp2_with fail
  refine (iAnswerChallenge_any s o _ len len l n w3 (unhide X3) ((unhide HM).keepB (unhide B3) h00)).mono ?_
  rintro e w4 ⟨⟨o4, n4, r4, z4, A4, rfl⟩, b4⟩
  obtain ⟨rfl, rfl, rfl, rfl⟩ := A4.one (unhide HA)
  have B4 := hide (bTr (unhide B3) b4)
  replace X3 := hide (((unhide X3).keep b4).mono b4.size)
  replace R3 := (unhide R3).keep b4
  have c0 := R3.at (o := 0) (v := .string o4) rfl
  have c1 := R3.at (o := 1) (v := .int .i64 n4) rfl
  have c2 := R3.at (o := 2) (v := .int .i64 r4) rfl
  have c3 := R3.at (o := 3) (v := .int .i64 z4) rfl
  have zz := R3.lt
  obtain ⟨W5, hW5⟩ : ∃ W, W = w4.alloc (.cells #[.string o4, .int .i64 n4, .int .i64 r4, .int .i64 z4] 26) := ⟨_, rfl⟩
  have b5 : Below w4.heap.size w4 W5 := by rw [hW5]; exact bAl (Below.refl _ _) _
  have B5 := hide (bTr (unhide B4) b5)
  replace X3 := hide (((unhide X3).keep b5).mono b5.size)
  have HW5 := hide hW5.symm
  clear b4 B3 R3 A4 HA b5 hW5 B4
  go_wp2_with fail
  rw [unhide HW5]
  refine (eqAnswer_same o4 n4 r4 z4 W5).mono ?_
  rintro e w6 ⟨rfl, b6⟩
  have B6 := hide (bTr (unhide B5) b6)
  replace X3 := hide (((unhide X3).keep b6).mono b6.size)
  clear c0 c1 c2 c3 zz HW5 b6 B5
  go_wp2_with fail
  refine (toByteS_any a len cap l w6 h1' (((unhide HS).keepB (unhide B6)).mono (unhide B6).size)).mono ?_
  rintro e w7 ⟨rfl, r7, b7⟩
  have X7 := hide (slB_row r7 r7.lt)
  rw [← unhide hll] at X7
  have B7 := hide (bTr (unhide B6) b7)
  have qe := hide (eqByteS_any (some ⟨g3, 0, none⟩) (some ⟨w6.heap.size, 0, none⟩) len len len len l l w7 h1' h1' (((unhide X3).keep b7).mono b7.size) (unhide X7))
  rw [decide_eq_true (rfl : l = l)] at qe
  clear r7 b7 B6 X3 X7
  go_wp2_with fail
  refine (unhide qe).mono ?_
  rintro e w8 ⟨rfl, b8⟩
  have B8 := hide (bTr (unhide B7) b8)
  clear b8 qe
  go_wp2_with fail
  go_ret
  exact ⟨rfl, unhide B8⟩

set_option maxRecDepth 100000 in
theorem lifted (os : Os) (started : os.Started) (H : Type) (enc : TypeId × Value → H) :
    ReturnsInHanded {} Tryd.checked os 3 .any (fun w args => (Rows.fnExactAnswerChallengeSpec.pre enc Tryd.prog Tryd.f3 [] false w args ∧ laidMetH Tryd.prog [("loop.example/g00036/impl.multipliers", Rows.laid_loop_example_g00036_impl_multipliers)] w) ∧ sizedMet enc Tryd.prog Tryd.f3 (OpenSpec.ofChange Rows.fnExactAnswerChallengeSpec) false w args)
      (Rows.fnExactAnswerChallengeSpec.post enc Tryd.prog Tryd.f3 false true false false) := by
  refine returnsInHanded_of_change_and (C := Tryd.checked) (X := fun w _ => laidMetH Tryd.prog [("loop.example/g00036/impl.multipliers", Rows.laid_loop_example_g00036_impl_multipliers)] w) (fun _ _ _ hh h => h.of_heap hh) own started (by kernel_rfl) Tryd.func3
    (ChangeSpec.witness_shaped (enc := enc) (C := Tryd.checked) (os := os) (X := fun w _ => laidMetH Tryd.prog [("loop.example/g00036/impl.multipliers", Rows.laid_loop_example_g00036_impl_multipliers)] w) false (World.doorLaid Tryd.prog 400 os) #[.int .i64 0, .string ByteArray.empty, .slice none 0 0, .int .i64 0] 8 rfl (World.shaped_of_RefB (by kernel_rfl) (by kernel_rfl)) (by kernel_rfl) (by kernel_rfl) (by kernel_rfl) (door_met os _)) ?_
  intro W base args ds gs before hval0 hW _ _ hL _
  have hval : ∀ (j : Nat) t v, Tryd.f3.params[j]? = some t → args[j]? = some v → Value.okWide Tryd.prog W .any base t v := hval0
  have hW' := hW
  obtain ⟨p, q, hA0, hV0, rfl, hfz, hnd⟩ := hW
  have hA : DataW.TrodAll enc Tryd.prog W 0 (fun _ => true) true Tryd.f3.params.toList args.toList ds p := hA0
  have hV : DataW.TrodVars enc Tryd.prog W (fun _ => true) ["loop.example/g00036/impl.multipliers"] gs q := hV0
  rw [Tryd.params3] at hA hval
  obtain ⟨v0, vs0, d0, ds0, p0, q0, hargs, rfl, rfl, h0, r0⟩ := trodAll_cons hA
  obtain ⟨v1, vs1, d1, ds1, p1, q1, rfl, rfl, rfl, h1, r1⟩ := trodAll_cons r0
  obtain ⟨v2, vs2, d2, ds2, p2, q2, rfl, rfl, rfl, h2, r2⟩ := trodAll_cons r1
  obtain ⟨v3, vs3, d3, ds3, p3, q3, rfl, rfl, rfl, h3, r3⟩ := trodAll_cons r2
  obtain ⟨rfl, rfl, rfl⟩ := trodAll_nil r3
  obtain rfl : args = #[v0, v1, v2, v3] := by cases args; simp_all
  obtain ⟨g, t, cs, fuel, d, p', rfl, hg, ht, hvar, hd, rfl⟩ := trodVars_one hV
  obtain rfl := Option.some.inj (gMul.symm.trans hg)
  obtain rfl := Option.some.inj (tMul.symm.trans ht)
  obtain rfl : cs = cellsM := Option.some.inj (hvar.symm.trans (cells_of_laid hL))
  obtain ⟨rfl, rfl⟩ := DataW.Trod.unique (v := .agg cellsM) ⟨fuel, hd⟩ ⟨3, reads_mul enc W _⟩
  obtain ⟨a0, rfl, rfl, rfl, w0⟩ := open_int Tryd.underlying3 (hval 0 3 v0 rfl rfl) h0
  obtain ⟨a1, rfl, rfl, rfl, w1⟩ := Go.ChangeMaps.open_string Tryd.underlying9 (hval 1 9 v1 rfl rfl) h1
  obtain ⟨a2, len2, cap2, rfl⟩ := okWide_slice Tryd.underlying22 (hval 2 22 v2 rfl rfl)
  have k2 := h2
  have lt2 : ∀ x ∈ p2, x.block < W.heap.size := by obtain ⟨m, hm⟩ := k2; exact DataW.trod_lt m _ _ _ hm
  obtain ⟨z2, w2⟩ : ∃ zs, IsRow .u8 W a2 len2 cap2 zs := by
    obtain ⟨fuel, hf⟩ := h2
    rcases open_ints Tryd.underlying22 Tryd.underlying5 (by kernel_rfl) hf with ⟨hcs, _⟩ | ⟨x, l, c, zs, hcs, _, hl, hm, hz, _, hcell, hwz⟩
    · simp [Value.cells] at hcs
      obtain ⟨rfl, rfl, rfl⟩ := hcs
      exact ⟨[], .inl ⟨rfl, rfl, rfl, rfl⟩⟩
    · simp [Value.cells] at hcs
      obtain ⟨rfl, rfl, rfl⟩ := hcs
      exact ⟨zs, .inr ⟨_, rfl, hl, hm, by simpa using hz, hcell, hwz⟩⟩
  obtain ⟨a3, rfl, rfl, rfl, w3⟩ := open_int Tryd.underlying3 (hval 3 3 v3 rfl rfl) h3
  clear hA0 hV0 hval0
  have hM := mults_of (cells_of_laid hL)
  refine (walk a0 a1 a2 len2 cap2 z2 a3 W w0 w1 w2 w3 hM).mono fun e W' ⟨he, bel⟩ => ?_
  subst he
  exact ⟨_, rfl, _, _, _, [], _, _, hW', trodAll_mk1 (shut_bool Tryd.underlying4 _), (trodAll_cons_mk (shut_int Tryd.underlying3 w0) (trodAll_cons_mk (Go.ChangeMaps.shut_string Tryd.underlying9 w1) (trodAll_cons_mk (Below.trod laidOut (by kernel_rfl) (of_decide_eq_true (by kernel_rfl)) k2 bel lt2) (trodAll_cons_mk (shut_int Tryd.underlying3 w3) trodAll_mk0)))), vars_kept enc (cells_of_laid hL) hM.1 bel, bel.frame _, fun h => by cases h⟩

theorem row : Rows.FnExactAnswerChallengeSaid :=
  OpenClaim.holds_of_wide 3 Tryd.f3 rfl rfl rfl rfl rfl rfl rfl ⟨rfl, rfl, rfl, rfl, rfl⟩ rfl rfl rfl rfl rfl (by kernel_rfl) Tryd.func3 (by kernel_rfl)
    (of_decide_eq_true (by kernel_rfl)) (by unfold Func.isWrapper; first | (rw [if_pos (by decide +kernel)]; kernel_rfl) | (rw [if_neg (by decide +kernel)]; exact ⟨rfl, rfl⟩))
    (fun os started H enc _ => lifted os started H enc)
theorem card : Rows.FnExactAnswerChallengeCardSaid :=
  Claim7.holds_tied_plain_at .later [] [.data] true (true, "0df8342d1680ce70a58305d888a19523ead31d3c67be45b149069910b929f191") false
    row (fun _ h => by cases h) (by kernel_rfl) (fun _ h => by cases h) fnExactAnswerChallenge_row_tie rfl ⟨rfl, rfl⟩ (by kernel_rfl) rfl
    (fun f fn hf hfn => by
      obtain rfl : f = 3 := Option.some.inj ((show Tryd.prog.funcNamed "loop.example/g00036/laws.FnExactAnswerChallenge" = some 3 by kernel_rfl).symm.trans hf) |>.symm
      obtain rfl : fn = Tryd.f3 := (Option.some.inj (Tryd.func3.symm.trans hfn)).symm
      exact ⟨by kernel_rfl, fun j t ht => by
        rw [Tryd.params3] at ht
        have hm : t ∈ [3, 9, 22, 3] := by simpa using Array.mem_of_getElem? ht
        have hall : ([3, 9, 22, 3].all fun u => !Tryd.prog.wantsStandIn u) = true := by kernel_rfl
        exact (show Tryd.prog.wantsStandIn t = false by simpa using List.all_eq_true.1 hall t hm)⟩)
    (by kernel_rfl)
end Go.Proofs.YtpagfcdoedlnoaaDoor.D.fnExactAnswerChallenge
namespace Go.Proofs.YtpagfcdoedlnoaaDoor
theorem fnExactAnswerChallenge_holds : Rows.FnExactAnswerChallengeCardSaid := D.fnExactAnswerChallenge.card
end Go.Proofs.YtpagfcdoedlnoaaDoor

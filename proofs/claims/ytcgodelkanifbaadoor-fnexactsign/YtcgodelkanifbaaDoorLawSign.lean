/- The row and the card of laws.FnExactSign: its walk, then the row's step. -/
import Derived.Test.YtcgodelkanifbaaDoorRows
import Derived.Test.YtcgodelkanifbaaDoorCards
import Derived.Test.YtcgodelkanifbaaDoorTie
import Derived.Test.YtcgodelkanifbaaDoorLawKit
import Derived.Test.YtcgodelkanifbaaDoorSgnE
import Derived.WalkKit
import Derived.ProofKit
import Derived.OpenShut
import Derived.ShutString
import Derived.ChangeOld
import Derived.Below
import Derived.Lib.SmallJoins
import Derived.LaidMore
import Derived.ChangeVars
import Derived.SevenTiedAt
import Derived.Stop.Joined
namespace Go.Proofs.YtcgodelkanifbaaDoor.fnExactSign
open Go.ChangeShapes Go.WideShapes Go.ChangeAt Go.RowKit Go.Joins
set_option linter.unusedVariables false

set_option maxHeartbeats 400000 in
theorem walk (s : Int) (a : Option Addr) (len cap : Nat) (zs : List Int) (w : World) (_ : (Lit.int .i64 s).wf = true) (hr : IsRow .u8 w a len cap zs) (hM : Mults w) :
    Calls Tryd.prog 7 #[.int .i64 s, .slice a len cap] w fun e w' => e = .returned (.bool true) ∧ Below w.heap.size w w' := by
  obtain ⟨⟨l, hs⟩, hc, hm⟩ := bytes_in hr
  clear hr
  have hl : len ≤ maxLen := Nat.le_trans hc hm
  unfold maxLen at hl
  have HS := hide hs
  have hll := hide hs.1
  have HM := hide hM
  have h00 := hM.1
  clear hs hc hm hM
  by_cases h1 : (1048576 : Int) < (len : Int)
  · go_enter Tryd.func7, Tryd.ntmps7
    go_wp2_with fail
    go_ret
    exact ⟨rfl, Below.refl _ _⟩
  have h1' : len ≤ 1048576 := by omega
  clear hl
  go_enter Tryd.func7, Tryd.ntmps7
  go_wp2_with fail
  refine (toByteS_any a len cap l _ h1' (unhide HS)).mono ?_
  rintro e w1 ⟨rfl, hr1, hb1⟩
  have B1 := hide hb1
  have S1 := hide (slB_row hr1 hr1.lt)
  rw [← unhide hll] at S1
  clear hr1 hb1
  go_wp2_with fail
  refine (sSign_of s _ len _ l _ h1' (unhide S1)).mono ?_
  rintro e w2 ⟨r, z, hsg, rfl, hb2⟩
  have B2 := hide (bTr (unhide B1) hb2)
  clear hb2 S1 B1
  have B2a := hide (bAl (unhide B2) (.cells #[.int .i64 (r : Int), .int .i64 (z : Int)] 26))
  have Q2 := hide (RowIs.new w2 #[.int .i64 (r : Int), .int .i64 (z : Int)] 26)
  go_wp2_with fail
  refine (toByteS_any a len cap l _ h1' (((unhide HS).keep (unhide B2a)).mono (unhide B2a).size)).mono ?_
  rintro e w3 ⟨rfl, hr3, hb3⟩
  rw [show (w2.alloc (.cells #[.int .i64 (r : Int), .int .i64 (z : Int)] 26)).heap.size = w2.heap.size + 1 by simp] at hr3
  have B3 := hide (bTr (unhide B2a) hb3)
  have Q3 := hide ((unhide Q2).keep hb3)
  have R3 := hide hr3
  have S3 := hide (slB_row hr3 hr3.lt)
  rw [← unhide hll] at S3
  clear hr3 hb3 B2 B2a Q2
  go_wp2_with fail
  refine (iSign_of s _ len _ l _ h1' (unhide S3) ((unhide HM).keepB (unhide B3) h00)).mono ?_
  rintro e w4 ⟨r4, z4, hsg4, rfl, hb4⟩
  obtain ⟨e4, e5⟩ := hsg.one hsg4
  subst e4 e5
  have B4 := hide (bTr (unhide B3) hb4)
  have Q4 := hide ((unhide Q3).keep hb4)
  have R4 := hide ((unhide R3).keep hb4)
  clear hb4 S3 B3 Q3 R3
  have B4a := hide (bAl (unhide B4) (.cells #[.int .i64 (r4 : Int), .int .i64 (z4 : Int)] 26))
  have Q4a := hide ((unhide Q4).keep (bAl (Below.refl _ _) (.cells #[.int .i64 (r4 : Int), .int .i64 (z4 : Int)] 26)))
  have R4a := hide ((unhide R4).keep (bAl (Below.refl _ _) (.cells #[.int .i64 (r4 : Int), .int .i64 (z4 : Int)] 26)))
  have hz4 : w2.heap.size < w4.heap.size := (unhide Q4).lt
  have q0 := (unhide Q4a).at (o := 0) (v := .int .i64 (r4 : Int)) rfl
  have q1 := (unhide Q4a).at (o := 1) (v := .int .i64 (z4 : Int)) rfl
  go_wp2_with fail
  refine (eqSig_any r4 z4 _).mono ?_
  rintro e w5 ⟨rfl, hb5⟩
  have B5 := hide (bTr (unhide B4a) hb5)
  have R5 := hide ((unhide R4a).keep hb5)
  clear hb5 B4 B4a Q4 Q4a R4 R4a q0 q1
  go_wp2_with fail
  refine (toByteS_any a len cap l _ h1' (((unhide HS).keep (unhide B5)).mono (unhide B5).size)).mono ?_
  rintro e w6 ⟨rfl, hr6, hb6⟩
  have B6 := hide (bTr (unhide B5) hb6)
  have R6 := hide ((unhide R5).keep hb6)
  have X6 := hide (slB_row hr6 hr6.lt)
  have Z6 := hide (slB_row (unhide R6) (unhide R6).lt)
  rw [← unhide hll] at X6 Z6
  clear hr6 hb6 B5 R5
  go_wp2_with fail
  refine (eqByteS_any _ _ len len _ _ l l _ h1' h1' (unhide Z6) (unhide X6)).mono ?_
  rintro e w7 ⟨rfl, hb7⟩
  rw [decide_eq_true (rfl : l = l)]
  have B7 := hide (bTr (unhide B6) hb7)
  clear hb7
  go_wp2_with fail
  go_ret
  exact ⟨rfl, unhide B7⟩

set_option maxRecDepth 100000 in
theorem lifted (os : Os) (started : os.Started) (H : Type) (enc : TypeId × Value → H) :
    ReturnsInHanded {} Tryd.checked os 7 .any (fun w args => (Rows.fnExactSignSpec.pre enc Tryd.prog Tryd.f7 [] false w args ∧ laidMetH Tryd.prog [("loop.example/g00036/impl.multipliers", Rows.laid_loop_example_g00036_impl_multipliers)] w) ∧ sizedMet enc Tryd.prog Tryd.f7 (OpenSpec.ofChange Rows.fnExactSignSpec) false w args)
      (Rows.fnExactSignSpec.post enc Tryd.prog Tryd.f7 false true false false) := by
  refine returnsInHanded_of_change_and (C := Tryd.checked) (X := fun w _ => laidMetH Tryd.prog [("loop.example/g00036/impl.multipliers", Rows.laid_loop_example_g00036_impl_multipliers)] w) (fun _ _ _ hh h => h.of_heap hh) own started (by kernel_rfl) Tryd.func7
    (ChangeSpec.witness_shaped (enc := enc) (C := Tryd.checked) (os := os) (X := fun w _ => laidMetH Tryd.prog [("loop.example/g00036/impl.multipliers", Rows.laid_loop_example_g00036_impl_multipliers)] w) false (World.doorLaid Tryd.prog 400 os) #[.int .i64 0, .slice none 0 0] 8 rfl (World.shaped_of_RefB (by kernel_rfl) (by kernel_rfl)) (by kernel_rfl) (by kernel_rfl) (by kernel_rfl) (door_met os _)) ?_
  intro W base args ds gs before hval0 hW _ _ hL _
  have hval : ∀ (j : Nat) t v, Tryd.f7.params[j]? = some t → args[j]? = some v → Value.okWide Tryd.prog W .any base t v := hval0
  have hW' := hW
  obtain ⟨p, q, hA0, hV0, rfl, hfz, hnd⟩ := hW
  have hA : DataW.TrodAll enc Tryd.prog W 0 (fun _ => true) true Tryd.f7.params.toList args.toList ds p := hA0
  have hV : DataW.TrodVars enc Tryd.prog W (fun _ => true) ["loop.example/g00036/impl.multipliers"] gs q := hV0
  rw [Tryd.params7] at hA hval
  obtain ⟨v0, vs0, d0, ds0, p0, q0, hargs, rfl, rfl, h0, r0⟩ := trodAll_cons hA
  obtain ⟨v1, vs1, d1, ds1, p1, q1, rfl, rfl, rfl, h1, r1⟩ := trodAll_cons r0
  obtain ⟨rfl, rfl, rfl⟩ := trodAll_nil r1
  obtain rfl : args = #[v0, v1] := by cases args; simp_all
  obtain ⟨g, t, cs, fuel, d, p', rfl, hg, ht, hvar, hd, rfl⟩ := trodVars_one hV
  obtain rfl := Option.some.inj (gMul.symm.trans hg)
  obtain rfl := Option.some.inj (tMul.symm.trans ht)
  obtain rfl : cs = cellsM := Option.some.inj (hvar.symm.trans (cells_of_laid hL))
  obtain ⟨rfl, rfl⟩ := DataW.Trod.unique (v := .agg cellsM) ⟨fuel, hd⟩ ⟨3, reads_mul enc W _⟩
  obtain ⟨a0, rfl, rfl, rfl, w0⟩ := open_int Tryd.underlying3 (hval 0 3 v0 rfl rfl) h0
  obtain ⟨a1, len1, cap1, rfl⟩ := okWide_slice Tryd.underlying22 (hval 1 22 v1 rfl rfl)
  have k1 := h1
  have lt1 : ∀ x ∈ p1, x.block < W.heap.size := by obtain ⟨m, hm⟩ := k1; exact DataW.trod_lt m _ _ _ hm
  obtain ⟨z1, w1⟩ : ∃ zs, IsRow .u8 W a1 len1 cap1 zs := by
    obtain ⟨fuel, hf⟩ := h1
    rcases open_ints Tryd.underlying22 Tryd.underlying5 (by kernel_rfl) hf with ⟨hcs, _⟩ | ⟨x, l, c, zs, hcs, _, hl, hm, hz, _, hcell, hwz⟩
    · simp [Value.cells] at hcs
      obtain ⟨rfl, rfl, rfl⟩ := hcs
      exact ⟨[], .inl ⟨rfl, rfl, rfl, rfl⟩⟩
    · simp [Value.cells] at hcs
      obtain ⟨rfl, rfl, rfl⟩ := hcs
      exact ⟨zs, .inr ⟨_, rfl, hl, hm, by simpa using hz, hcell, hwz⟩⟩
  clear hA0 hV0 hval0
  have hM := mults_of (cells_of_laid hL)
  refine (walk a0 a1 len1 cap1 z1 W w0 w1 hM).mono fun e W' ⟨he, bel⟩ => ?_
  subst he
  exact ⟨_, rfl, _, _, _, [], _, _, hW', trodAll_mk1 (shut_bool Tryd.underlying4 _), (trodAll_cons_mk (shut_int Tryd.underlying3 w0) (trodAll_cons_mk (Below.trod laidOut (by kernel_rfl) (of_decide_eq_true (by kernel_rfl)) k1 bel lt1) trodAll_mk0)), vars_kept enc (cells_of_laid hL) hM.1 bel, bel.frame _, fun h => by cases h⟩

theorem row : Rows.FnExactSignSaid :=
  OpenClaim.holds_of_wide 7 Tryd.f7 rfl rfl rfl rfl rfl rfl rfl ⟨rfl, rfl, rfl, rfl, rfl⟩ rfl rfl rfl rfl rfl (by kernel_rfl) Tryd.func7 (by kernel_rfl)
    (of_decide_eq_true (by kernel_rfl)) (by unfold Func.isWrapper; first | (rw [if_pos (by decide +kernel)]; kernel_rfl) | (rw [if_neg (by decide +kernel)]; exact ⟨rfl, rfl⟩))
    (fun os started H enc _ => lifted os started H enc)
theorem card : Rows.FnExactSignCardSaid :=
  Claim7.holds_tied_plain_at .later [] [.data] true (true, "4d4ec08cc399d53a7ca90ccacaa052f760e0b328250ac90dfbc256b2473df321") false
    row (fun _ h => by cases h) (by kernel_rfl) (fun _ h => by cases h) fnExactSign_row_tie rfl ⟨rfl, rfl⟩ (by kernel_rfl) rfl
    (fun f fn hf hfn => by
      obtain rfl : f = 7 := Option.some.inj ((show Tryd.prog.funcNamed "loop.example/g00036/laws.FnExactSign" = some 7 by kernel_rfl).symm.trans hf) |>.symm
      obtain rfl : fn = Tryd.f7 := (Option.some.inj (Tryd.func7.symm.trans hfn)).symm
      exact ⟨by kernel_rfl, fun j t ht => by
        rw [Tryd.params7] at ht
        have hm : t ∈ [3, 22] := by simpa using Array.mem_of_getElem? ht
        have hall : ([3, 22].all fun u => !Tryd.prog.wantsStandIn u) = true := by kernel_rfl
        exact (show Tryd.prog.wantsStandIn t = false by simpa using List.all_eq_true.1 hall t hm)⟩)
    (by kernel_rfl)
end Go.Proofs.YtcgodelkanifbaaDoor.fnExactSign
namespace Go.Proofs.YtcgodelkanifbaaDoor
theorem fnExactSign_holds : Rows.FnExactSignCardSaid := fnExactSign.card
end Go.Proofs.YtcgodelkanifbaaDoor

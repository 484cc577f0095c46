/- The row and the card of laws.FnExactCheckAnswer: its walk, then the row's step. -/
import Derived.Test.YtpagfcdoedlnoaaDoorRows
import Derived.Test.YtpagfcdoedlnoaaDoorCards
import Derived.Test.YtpagfcdoedlnoaaDoorTie
import Derived.Test.YtpagfcdoedlnoaaDoorDLawKit
import Derived.Test.YtpagfcdoedlnoaaDoorKAg
import Derived.Test.YtpagfcdoedlnoaaDoorDIn
import Derived.WalkKit
import Derived.ProofKit
import Derived.OpenShut
import Derived.ShutString
import Derived.ChangeOld
import Derived.Below
import Derived.Lib.SmallJoins
import Derived.LaidMore
import Derived.ChangeVars
import Derived.SevenTiedAt
import Derived.Stop.Joined
import Derived.Deep.RegionHeld3
namespace Go.Proofs.YtpagfcdoedlnoaaDoor.D.fnExactCheckAnswer
open Go.ChangeShapes Go.WideShapes Go.ChangeAt Go.RowKit Go.Joins
set_option linter.unusedVariables false

theorem gen_exit {Q : Exit → Act → World → Prop} {e : Exit} {a : Act} {W : World} {R : World → Prop} (h : R W) (k : ∀ W', R W' → Q e a W') : Q e a W := k W h
set_option maxHeartbeats 40000000 in
theorem walk (P : Int) (ko : ByteArray) (kc : Int) (a : Option Addr) (len cap : Nat) (zs : List Int) (o : ByteArray) (n r z : Int) (w : World) (hko : ko.size ≤ maxLen) (hr : IsRow .u8 w a len cap zs) (ho : o.size ≤ maxLen) (hM : Mults w) :
    Calls Tryd.prog 4 #[.agg #[.int .i64 P, .string ko, .int .i64 kc], .slice a len cap, .agg #[.string o, .int .i64 n, .int .i64 r, .int .i64 z]] w fun e w' => e = .returned (.bool true) ∧ Below w.heap.size w w' := by
  obtain ⟨⟨l, hs⟩, hc, hm⟩ := bytes_in hr
  have hl : len ≤ maxLen := Nat.le_trans hc hm
  unfold maxLen at hl
  obtain ⟨pb, hpb⟩ := pub_b P
  obtain ⟨vb, hvb⟩ := goodV_ex ⟨o, n, r, z, P, ko, kc, a, len, cap⟩ l
  have HS := hide hs
  have hll := hide hs.1
  have HM := hide hM
  have h00 := hM.1
  have HK := hide hko
  have HO := hide ho
  have HP := hide hpb
  have HV := hide hvb
  obtain ⟨W, hW⟩ : ∃ W, W = (w.alloc (.cells #[.int .i64 P, .string ko, .int .i64 kc] 33)).alloc (.cells #[.string o, .int .i64 n, .int .i64 r, .int .i64 z] 36) := ⟨_, rfl⟩
  have B0 : Below w.heap.size w W := by rw [hW]; exact bAl (bAl (Below.refl _ _) _) _
  have Rk : RowIs W w.heap.size #[.int .i64 P, .string ko, .int .i64 kc] 33 := by rw [hW]; exact (RowIs.new w _ _).keep (bAl (Below.refl _ _) _)
  have Ra : RowIs W (w.heap.size + 1) #[.string o, .int .i64 n, .int .i64 r, .int .i64 z] 36 := by
    rw [hW]
    have := RowIs.new (w.alloc (.cells #[.int .i64 P, .string ko, .int .i64 kc] 33)) #[.string o, .int .i64 n, .int .i64 r, .int .i64 z] 36
    simpa using this
  have HB := hide B0
  have HW := hide hW.symm
  have HRk := hide Rk
  have HRa := hide Ra
  clear hr hs hc hm hM hko ho hpb hvb hW B0 Rk Ra
  by_cases h1 : (1048576 : Int) < (len : Int)
  · go_enter Tryd.func4, Tryd.ntmps4
    go_wp2_with fail
    go_ret
    rw [unhide HW]
    exact ⟨rfl, unhide HB⟩
  have h1' : len ≤ 1048576 := by omega
  clear hl
  go_enter Tryd.func4, Tryd.ntmps4
  go_wp2_with fail
  rw [unhide HW]
  refine (szHardKey_any P kc ko _ W (by omega) (by omega) (unhide HK)).mono ?_
  rintro e w1 ⟨⟨m1, m1a, m1b, m1c, rfl⟩, b1⟩
  have B1 := hide (bTr (unhide HB) b1)
  have K1 := hide ((unhide HRk).keep b1)
  have A1 := hide ((unhide HRa).keep b1)
  clear b1 m1c HRk HRa HB HW
  by_cases g1 : m1 < 0
  · go_wp2_with fail
    go_ret
    exact ⟨rfl, unhide B1⟩
  have x0 := (unhide A1).at (o := 0) (v := .string o) rfl
  have x1 := (unhide A1).at (o := 1) (v := .int .i64 n) rfl
  have x2 := (unhide A1).at (o := 2) (v := .int .i64 r) rfl
  have x3 := (unhide A1).at (o := 3) (v := .int .i64 z) rfl
  have xz := (unhide A1).lt
  go_wp2_with fail
  refine (szAnswer_any o n r z _ w1 (by omega) (by omega) (unhide HO)).mono ?_
  rintro e w2 ⟨⟨m2, m2a, m2b, m2c, rfl⟩, b2⟩
  have B2 := hide (bTr (unhide B1) b2)
  have K2 := hide ((unhide K1).keep b2)
  have A2 := hide ((unhide A1).keep b2)
  clear b2 m2c B1 K1 A1 x0 x1 x2 x3 xz
  by_cases g2 : m2 < 0
  · go_wp2_with fail
    go_ret
    exact ⟨rfl, unhide B2⟩
  obtain ⟨p', o', c', hout⟩ := outA_cells ⟨o, n, r, z, P, ko, kc, a, len, cap⟩ (ckA ⟨o, n, r, z, P, ko, kc, a, len, cap⟩ pb vb)
  obtain ⟨x, hx⟩ : ∃ x : ShT, x = ⟨o, n, r, z, P, ko, kc, a, len, cap⟩ := ⟨_, rfl⟩
  have E0 := hide (show Ev w x l [] [] w2 by rw [hx]; exact ⟨unhide K2, unhide A2, fun _ h => absurd h List.not_mem_nil, fun _ h => absurd h List.not_mem_nil, unhide B2, fun _ h => absurd h List.not_mem_nil, List.Pairwise.nil⟩)
  rw [← hx] at HV hout
  obtain ⟨F, hF⟩ : ∃ F, ckA x pb vb = F := ⟨_, rfl⟩
  have eo : x.o = o := by rw [hx]
  have en : x.n = n := by rw [hx]
  have er : x.r = r := by rw [hx]
  have ez : x.z = z := by rw [hx]
  have eP : x.P = P := by rw [hx]
  have ek : x.ko = ko := by rw [hx]
  have ec : x.kc = kc := by rw [hx]
  have ea : x.a = a := by rw [hx]
  have el : x.len = len := by rw [hx]
  have ep : x.cap = cap := by rw [hx]
  rw [← el] at h1'
  rw [← ea, ← el] at HS
  rw [← eP] at HP
  rw [← eo, ← en, ← er, ← ez, ← eP, ← ek, ← ec, ← ea, ← el, ← ep]
  clear eo en er ez eP ek ec ea el ep hx K2 A2 B2 HK HO hll
  have q5 : Hid (∀ W g gs bs, Ev w x l (g :: gs) bs W → Calls Tryd.prog 12 #[.agg #[.int .i64 x.P, .string x.ko, .int .i64 x.kc], .slice (some ⟨g, 0, none⟩) x.len x.len, .agg #[.string x.o, .int .i64 x.n, .int .i64 x.r, .int .i64 x.z]] W fun e w' => e = .returned (.tuple #[.agg #[.int .i64 p', .string o', .int .i64 c'], .int .i64 F]) ∧ Ev w x l (g :: gs) bs w') := hide (fun W g gs bs h => by have := sCheck_ev h (unhide HP) (unhide HV); rwa [hout, hF] at this)
  have q6 : Hid (∀ W g gs bs, Ev w x l (g :: gs) bs W → Calls Tryd.prog 15 #[.agg #[.int .i64 x.P, .string x.ko, .int .i64 x.kc], .slice (some ⟨g, 0, none⟩) x.len x.len, .agg #[.string x.o, .int .i64 x.n, .int .i64 x.r, .int .i64 x.z]] W fun e w' => e = .returned (.tuple #[.agg #[.int .i64 p', .string o', .int .i64 c'], .int .i64 F]) ∧ Ev w x l (g :: gs) bs w') := hide (fun W g gs bs h => by have := iCheck_ev h (unhide HP) (unhide HV) (unhide HM); rwa [hout, hF] at this)
  clear HP HV hout hF
  go_wp2_with fail
  have E1 := hide (unhide E0).dr
  have ES := E0
  go_region_held3 (fun w' => (w'.cell? ⟨w.heap.size, 0, none⟩ = some (.int .i64 x.P) ∧ w'.cell? ⟨w.heap.size, 1, none⟩ = some (.string x.ko) ∧ w'.cell? ⟨w.heap.size, 2, none⟩ = some (.int .i64 x.kc)) ∧ w'.cell? ⟨w.heap.size + 1, 0, none⟩ = some (.string x.o) ∧ w'.cell? ⟨w.heap.size + 1, 1, none⟩ = some (.int .i64 x.n) ∧ w'.cell? ⟨w.heap.size + 1, 2, none⟩ = some (.int .i64 x.r) ∧ w'.cell? ⟨w.heap.size + 1, 3, none⟩ = some (.int .i64 x.z))
    (first
      | with_reducible exact (unhide E1).cells
      | with_reducible exact ((unhide E1).alB _ _ _).cells
      | with_reducible exact (unhide ES).cells
      | with_reducible exact (((unhide E0).alB _ _ _).dr).cells
      | with_reducible exact (unhide E2).cells
      | with_reducible exact (unhide E3).cells)
    (first
      | (go_at_call 13; (first | with_reducible refine (toHardKey_ev (unhide E1)).mono ?_ | with_reducible refine (toHardKey_ev ((unhide E1).alB _ _ _)).mono ?_ | with_reducible refine (toHardKey_ev (((unhide E0).alB _ _ _).dr)).mono ?_); rintro e w3 ⟨rfl, hE⟩; replace E1 := hide hE; clear hE)
      | (go_at_call 6; (first | with_reducible refine (toByteS_ev (unhide E1) h1' (unhide HS)).mono ?_ | with_reducible refine (toByteS_ev ((unhide E1).alB _ _ _) h1' (unhide HS)).mono ?_); rintro e w3 ⟨g, rfl, hE⟩; replace E1 := hide hE; clear hE)
      | (go_at_call 14; (first | with_reducible refine (toAnswer_ev (unhide E1)).mono ?_ | with_reducible refine (toAnswer_ev ((unhide E1).alB _ _ _)).mono ?_); rintro e w3 ⟨rfl, hE⟩; replace E1 := hide hE; clear hE)
      | (go_at_call 12; (first | with_reducible refine (unhide q5 _ _ _ _ (unhide E1)).mono ?_ | with_reducible refine (unhide q5 _ _ _ _ ((unhide E1).alB _ _ _)).mono ?_); rintro e w3 ⟨rfl, hE⟩; replace E1 := hide hE; clear hE; (try (obtain ⟨s0, s1, s2, f0, f1, f2, sz⟩ := (unhide E1).box; have E2 := hide ((unhide E1).put (NoB.i _) (NoB.s _) (NoB.i _) (.int .i64 p') (.string o') (.int .i64 c')))); (try (have E3 := hide ((unhide E1).alB (.int .i64 p') (.string o') (.int .i64 c'))))))
  all_goals
    iterate 40 (try clear hHeld)
    first | have E4 := E2 | have E4 := E3
    clear E0 E1 ES
    try clear E2
    try clear E3
    try clear s0 s1 s2 f0 f1 f2 sz
    go_wp2_with fail
    refine (toByteS_ev (unhide E4) h1' (unhide HS)).mono ?_
    rintro e w4 ⟨g2, rfl, hE⟩
    replace E4 := hide hE
    clear hE
    go_wp2_with fail
    have E5 := hide (unhide E4).dr
    have ES := E4
    go_region_held3 (fun w' => (w'.cell? ⟨w.heap.size, 0, none⟩ = some (.int .i64 x.P) ∧ w'.cell? ⟨w.heap.size, 1, none⟩ = some (.string x.ko) ∧ w'.cell? ⟨w.heap.size, 2, none⟩ = some (.int .i64 x.kc)) ∧ w'.cell? ⟨w.heap.size + 1, 0, none⟩ = some (.string x.o) ∧ w'.cell? ⟨w.heap.size + 1, 1, none⟩ = some (.int .i64 x.n) ∧ w'.cell? ⟨w.heap.size + 1, 2, none⟩ = some (.int .i64 x.r) ∧ w'.cell? ⟨w.heap.size + 1, 3, none⟩ = some (.int .i64 x.z))
      (first
        | with_reducible exact (unhide E5).cells
        | with_reducible exact ((unhide E5).alB _ _ _).cells
        | with_reducible exact (unhide ES).cells
        | with_reducible exact (((unhide E4).alB _ _ _).dr).cells
        | with_reducible exact (unhide E2).cells
        | with_reducible exact (unhide E3).cells)
      (first
        | (go_at_call 13; (first | with_reducible refine (toHardKey_ev (unhide E5)).mono ?_ | with_reducible refine (toHardKey_ev ((unhide E5).alB _ _ _)).mono ?_ | with_reducible refine (toHardKey_ev (((unhide E4).alB _ _ _).dr)).mono ?_); rintro e w3 ⟨rfl, hE⟩; replace E5 := hide hE; clear hE)
        | (go_at_call 14; (first | with_reducible refine (toAnswer_ev (unhide E5)).mono ?_ | with_reducible refine (toAnswer_ev ((unhide E5).alB _ _ _)).mono ?_); rintro e w3 ⟨rfl, hE⟩; replace E5 := hide hE; clear hE)
        | (go_at_call 15; (first | with_reducible refine (unhide q6 _ _ _ _ (unhide E5)).mono ?_ | with_reducible refine (unhide q6 _ _ _ _ ((unhide E5).alB _ _ _)).mono ?_); rintro e w3 ⟨rfl, hE⟩; replace E5 := hide hE; clear hE; (try (obtain ⟨s0, s1, s2, f0, f1, f2, sz⟩ := (unhide E5).box; have E2 := hide ((unhide E5).put (NoB.i _) (NoB.s _) (NoB.i _) (.int .i64 p') (.string o') (.int .i64 c')))); (try (have E3 := hide ((unhide E5).alB (.int .i64 p') (.string o') (.int .i64 c'))))))
  all_goals
    iterate 40 (try clear hHeld)
    first | with_reducible refine gen_exit (R := Ev w x l _ _) (unhide E3) ?_ | with_reducible refine gen_exit (R := Ev w x l _ _) (unhide E2) ?_
    clear E4 E5 ES
    try clear E2
    try clear E3
    try clear s0 s1 s2 f0 f1 f2 sz
    intro W6 e6
    obtain ⟨⟨t0, t1, t2, tz⟩, u0, u1, u2, uz⟩ := e6.two
    have E6 := hide e6
    have kF : (F != F) = false := by simp
    clear e6
    go_wp2_with fail
    refine (eqHardKey_ev (unhide E6)).mono ?_
    rintro e w7 ⟨rfl, hE⟩
    replace E6 := hide hE
    clear hE t0 t1 t2 tz u0 u1 u2 uz
    go_wp2_with fail
    refine (toByteS_ev (unhide E6) h1' (unhide HS)).mono ?_
    rintro e w8 ⟨g8, rfl, hE⟩
    replace E6 := hide hE
    clear hE
    go_wp2_with fail
    refine (eqByteS_ev (unhide E6) h1').mono ?_
    rintro e w9 ⟨rfl, hE⟩
    replace E6 := hide hE
    clear hE
    go_wp2_with fail
    go_ret
    exact ⟨rfl, (unhide E6).B⟩

set_option maxRecDepth 100000 in
theorem lifted (os : Os) (started : os.Started) (H : Type) (enc : TypeId × Value → H) :
    ReturnsInHanded {} Tryd.checked os 4 .any (fun w args => (Rows.fnExactCheckAnswerSpec.pre enc Tryd.prog Tryd.f4 [] false w args ∧ laidMetH Tryd.prog [("loop.example/g00036/impl.multipliers", Rows.laid_loop_example_g00036_impl_multipliers)] w) ∧ sizedMet enc Tryd.prog Tryd.f4 (OpenSpec.ofChange Rows.fnExactCheckAnswerSpec) false w args)
      (Rows.fnExactCheckAnswerSpec.post enc Tryd.prog Tryd.f4 false true false false) := by
  refine returnsInHanded_of_change_and (C := Tryd.checked) (X := fun w _ => laidMetH Tryd.prog [("loop.example/g00036/impl.multipliers", Rows.laid_loop_example_g00036_impl_multipliers)] w) (fun _ _ _ hh h => h.of_heap hh) own started (by kernel_rfl) Tryd.func4
    (ChangeSpec.witness_shaped (enc := enc) (C := Tryd.checked) (os := os) (X := fun w _ => laidMetH Tryd.prog [("loop.example/g00036/impl.multipliers", Rows.laid_loop_example_g00036_impl_multipliers)] w) false (World.doorLaid Tryd.prog 400 os) #[.agg #[.int .i64 0, .string ByteArray.empty, .int .i64 0], .slice none 0 0, .agg #[.string ByteArray.empty, .int .i64 0, .int .i64 0, .int .i64 0]] 8 rfl (World.shaped_of_RefB (by kernel_rfl) (by kernel_rfl)) (by kernel_rfl) (by kernel_rfl) (by kernel_rfl) (door_met os _)) ?_
  intro W base args ds gs before hval0 hW _ _ hL _
  have hval : ∀ (j : Nat) t v, Tryd.f4.params[j]? = some t → args[j]? = some v → Value.okWide Tryd.prog W .any base t v := hval0
  have hW' := hW
  obtain ⟨p, q, hA0, hV0, rfl, hfz, hnd⟩ := hW
  have hA : DataW.TrodAll enc Tryd.prog W 0 (fun _ => true) true Tryd.f4.params.toList args.toList ds p := hA0
  have hV : DataW.TrodVars enc Tryd.prog W (fun _ => true) ["loop.example/g00036/impl.multipliers"] gs q := hV0
  rw [Tryd.params4] at hA hval
  obtain ⟨v0, vs0, d0, ds0, p0, q0, hargs, rfl, rfl, h0, r0⟩ := trodAll_cons hA
  obtain ⟨v1, vs1, d1, ds1, p1, q1, rfl, rfl, rfl, h1, r1⟩ := trodAll_cons r0
  obtain ⟨v2, vs2, d2, ds2, p2, q2, rfl, rfl, rfl, h2, r2⟩ := trodAll_cons r1
  obtain ⟨rfl, rfl, rfl⟩ := trodAll_nil r2
  obtain rfl : args = #[v0, v1, v2] := by cases args; simp_all
  obtain ⟨g, t, cs, fuel, d, p', rfl, hg, ht, hvar, hd, rfl⟩ := trodVars_one hV
  obtain rfl := Option.some.inj (gMul.symm.trans hg)
  obtain rfl := Option.some.inj (tMul.symm.trans ht)
  obtain rfl : cs = cellsM := Option.some.inj (hvar.symm.trans (cells_of_laid hL))
  obtain ⟨rfl, rfl⟩ := DataW.Trod.unique (v := .agg cellsM) ⟨fuel, hd⟩ ⟨3, reads_mul enc W _⟩
  have k0 := h0
  have lt0 : ∀ x ∈ p0, x.block < W.heap.size := by obtain ⟨m, hm⟩ := k0; exact DataW.trod_lt m _ _ _ hm
  obtain ⟨P0, o0, c0, e0, y0⟩ := readv_HardKey (hval 0 33 v0 rfl rfl) h0
  subst e0
  obtain ⟨a1, len1, cap1, rfl⟩ := okWide_slice Tryd.underlying22 (hval 1 22 v1 rfl rfl)
  have k1 := h1
  have lt1 : ∀ x ∈ p1, x.block < W.heap.size := by obtain ⟨m, hm⟩ := k1; exact DataW.trod_lt m _ _ _ hm
  obtain ⟨z1, w1⟩ : ∃ zs, IsRow .u8 W a1 len1 cap1 zs := by
    obtain ⟨fuel, hf⟩ := h1
    rcases open_ints Tryd.underlying22 Tryd.underlying5 (by kernel_rfl) hf with ⟨hcs, _⟩ | ⟨x, l, c, zs, hcs, _, hl, hm, hz, _, hcell, hwz⟩
    · simp [Value.cells] at hcs
      obtain ⟨rfl, rfl, rfl⟩ := hcs
      exact ⟨[], .inl ⟨rfl, rfl, rfl, rfl⟩⟩
    · simp [Value.cells] at hcs
      obtain ⟨rfl, rfl, rfl⟩ := hcs
      exact ⟨zs, .inr ⟨_, rfl, hl, hm, by simpa using hz, hcell, hwz⟩⟩
  have k2 := h2
  have lt2 : ∀ x ∈ p2, x.block < W.heap.size := by obtain ⟨m, hm⟩ := k2; exact DataW.trod_lt m _ _ _ hm
  obtain ⟨o2, n2, r2, z2, e2, y2⟩ := readv_Answer (hval 2 36 v2 rfl rfl) h2
  subst e2
  clear hA0 hV0 hval0
  have hM := mults_of (cells_of_laid hL)
  refine (walk P0 o0 c0 a1 len1 cap1 z1 o2 n2 r2 z2 W y0 w1 y2 hM).mono fun e W' ⟨he, bel⟩ => ?_
  subst he
  exact ⟨_, rfl, _, _, _, [], _, _, hW', trodAll_mk1 (shut_bool Tryd.underlying4 _), (trodAll_cons_mk (Below.trod laidOut (by kernel_rfl) (of_decide_eq_true (by kernel_rfl)) k0 bel lt0) (trodAll_cons_mk (Below.trod laidOut (by kernel_rfl) (of_decide_eq_true (by kernel_rfl)) k1 bel lt1) (trodAll_cons_mk (Below.trod laidOut (by kernel_rfl) (of_decide_eq_true (by kernel_rfl)) k2 bel lt2) trodAll_mk0))), vars_kept enc (cells_of_laid hL) hM.1 bel, bel.frame _, fun h => by cases h⟩

theorem row : Rows.FnExactCheckAnswerSaid :=
  OpenClaim.holds_of_wide 4 Tryd.f4 rfl rfl rfl rfl rfl rfl rfl ⟨rfl, rfl, rfl, rfl, rfl⟩ rfl rfl rfl rfl rfl (by kernel_rfl) Tryd.func4 (by kernel_rfl)
    (of_decide_eq_true (by kernel_rfl)) (by unfold Func.isWrapper; first | (rw [if_pos (by decide +kernel)]; kernel_rfl) | (rw [if_neg (by decide +kernel)]; exact ⟨rfl, rfl⟩))
    (fun os started H enc _ => lifted os started H enc)
theorem card : Rows.FnExactCheckAnswerCardSaid :=
  Claim7.holds_tied_plain_at .later [] [.data] true (true, "0df8342d1680ce70a58305d888a19523ead31d3c67be45b149069910b929f191") false
    row (fun _ h => by cases h) (by kernel_rfl) (fun _ h => by cases h) fnExactCheckAnswer_row_tie rfl ⟨rfl, rfl⟩ (by kernel_rfl) rfl
    (fun f fn hf hfn => by
      obtain rfl : f = 4 := Option.some.inj ((show Tryd.prog.funcNamed "loop.example/g00036/laws.FnExactCheckAnswer" = some 4 by kernel_rfl).symm.trans hf) |>.symm
      obtain rfl : fn = Tryd.f4 := (Option.some.inj (Tryd.func4.symm.trans hfn)).symm
      exact ⟨by kernel_rfl, fun j t ht => by
        rw [Tryd.params4] at ht
        have hm : t ∈ [33, 22, 36] := by simpa using Array.mem_of_getElem? ht
        have hall : ([33, 22, 36].all fun u => !Tryd.prog.wantsStandIn u) = true := by kernel_rfl
        exact (show Tryd.prog.wantsStandIn t = false by simpa using List.all_eq_true.1 hall t hm)⟩)
    (by kernel_rfl)
end Go.Proofs.YtpagfcdoedlnoaaDoor.D.fnExactCheckAnswer
namespace Go.Proofs.YtpagfcdoedlnoaaDoor
theorem fnExactCheckAnswer_holds : Rows.FnExactCheckAnswerCardSaid := D.fnExactCheckAnswer.card
end Go.Proofs.YtpagfcdoedlnoaaDoor

/- The row and the card of laws.FnExactCapText: its walk, then the row's step. -/
import Derived.Test.YtfdfglblcgdoiaaDoorRows
import Derived.Test.YtfdfglblcgdoiaaDoorCards
import Derived.Test.YtfdfglblcgdoiaaDoorTie
import Derived.Test.YtfdfglblcgdoiaaDoorKXl
import Derived.Test.YtfdfglblcgdoiaaDoorKGc
import Derived.Test.YtfdfglblcgdoiaaDoorKGd
import Derived.Deep.Cut
import Derived.Deep.RegionHeld3
import Derived.WalkKit
import Derived.ProofKit
import Derived.OpenShut
import Derived.ShutString
import Derived.ChangeOld
import Derived.Below
import Derived.Lib.SmallJoins
import Derived.LaidMore
import Derived.ChangeVars
import Derived.SevenTiedAt
import Derived.Stop.Joined
namespace Go.Proofs.YtfdfglblcgdoiaaDoor.fnExactCapText
open Go.ChangeShapes Go.WideShapes Go.ChangeAt Go.RowKit Go.Joins
open Go.ChangeMaps (open_string shut_string)
set_option linter.unusedVariables false

set_option maxRecDepth 20000 in
set_option maxHeartbeats 4000000 in
theorem walk (id : ByteArray) (a1 a2 : Option Addr) (n1 c1 c2 : Nat) (T : List V.CavTermT) (G : List UInt8) (w : World) (hid : id.size ≤ maxLen) (hs : V.SlCavTerm w a1 n1 T) (ok : ∀ q ∈ T, V.CavTermT.Ok q) (hl : n1 ≤ maxLen) (hg : D.SlB w w.heap.size a2 G.length G) (hlg : G.length ≤ maxLen) (hT : Tab w) (hS : V.Signs w) :
    Calls Tryd.prog 3 #[D.cpV id a1 a2 n1 c1 G.length c2] w fun e w' => e = .returned (.bool true) ∧ Below w.heap.size w w' := by
  have HT := hide hT
  have HS := hide hS
  have HC := hide hs
  have HG := hide hg
  have HI := hide hid
  have HO := hide ok
  have R := hide (RowIs.new w (D.cpC id a1 a2 n1 c1 G.length c2) 25)
  have B0 := hide (bAl (Below.refl w.heap.size w) (.cells (D.cpC id a1 a2 n1 c1 G.length c2) 25))
  have qz := hide (fun q w h0 h1 hs => D.szCap_any id a1 a2 n1 c1 G.length c2 T q w h0 h1 hid hl hlg hs ok)
  have qt := hide (fun w (h1 : n1 ≤ 1048576) (h2 : G.length ≤ 1048576) hs hg => D.toCap_any id a1 a2 n1 c1 G.length c2 T G w h1 h2 hs hg)
  clear hT hS ok hs hg hid hl hlg
  have c0 := (unhide R).at (o := 0) (v := .string id) rfl
  have c1_ := (unhide R).at (o := 1) (v := .slice a1 n1 c1) rfl
  have c2_ := (unhide R).at (o := 2) (v := .slice a2 G.length c2) rfl
  have cz := (unhide R).lt
  go_enter Tryd.func3, Tryd.ntmps3
  go_wp2_with fail
  refine (unhide qz _ _ (by omega) (by omega) ((unhide HC).keep (unhide B0))).mono ?_
  rintro e w1 ⟨⟨m, hm1, hm2, hm3, rfl⟩, hb1⟩
  replace R := hide ((unhide R).keep hb1)
  have B1 := hide (bTr (unhide B0) hb1)
  clear hb1 B0 qz c0 c1_ c2_ cz
  have c0 := (unhide R).at (o := 0) (v := .string id) rfl
  have c1_ := (unhide R).at (o := 1) (v := .slice a1 n1 c1) rfl
  have c2_ := (unhide R).at (o := 2) (v := .slice a2 G.length c2) rfl
  have cz := (unhide R).lt
  by_cases hm : m < 0
  · go_wp2_with fail
    go_ret
    exact ⟨rfl, unhide B1⟩
  obtain ⟨z0, z1, z2⟩ := hm3 (by omega)
  clear hm3
  go_wp2_with fail
  refine (unhide qt _ z1 z2 ((unhide HC).keep (unhide B1)) (((unhide HG).keep (unhide B1)).mono (unhide B1).size)).mono ?_
  rintro e w2 ⟨⟨g1, g2, C, rfl, hr, hz, hw, hb, _, _⟩, hb2⟩
  replace R := hide ((unhide R).keep hb2)
  have B2 := hide (bTr (unhide B1) hb2)
  have X1 := hide (show V.SlCavTerm w2 (some ⟨g1, 0, none⟩) n1 T from ⟨(unhide HC).1, .inr ⟨_, 0, rfl, hw⟩⟩)
  have X2 := hide (D.slB_row hb hb.lt)
  clear hb2 B1 c0 c1_ c2_ cz hr hz hw hb
  go_wp2_with fail
  refine (D.sCapText_any id _ _ n1 n1 G.length T G w2 (unhide HI) z1 (unhide X1) (unhide HO) (unhide X2)).mono ?_
  rintro e w3 ⟨⟨X, hX, rfl⟩, hb3⟩
  replace R := hide ((unhide R).keep hb3)
  have B3 := hide (bTr (unhide B2) hb3)
  have HX := hide hX
  clear hb3 B2 hX X1 X2
  have c0 := (unhide R).at (o := 0) (v := .string id) rfl
  have c1_ := (unhide R).at (o := 1) (v := .slice a1 n1 c1) rfl
  have c2_ := (unhide R).at (o := 2) (v := .slice a2 G.length c2) rfl
  have cz := (unhide R).lt
  go_wp2_with fail
  refine (unhide qt _ z1 z2 ((unhide HC).keep (unhide B3)) (((unhide HG).keep (unhide B3)).mono (unhide B3).size)).mono ?_
  rintro e w4 ⟨⟨g3, g4, C4, rfl, hr, hz, hw, hb, _, _⟩, hb4⟩
  replace R := hide ((unhide R).keep hb4)
  have B4 := hide (bTr (unhide B3) hb4)
  have X1 := hide (show V.SlCavTerm w4 (some ⟨g3, 0, none⟩) n1 T from ⟨(unhide HC).1, .inr ⟨_, 0, rfl, hw⟩⟩)
  have X2 := hide (D.slB_row hb hb.lt)
  clear hb4 B3 c0 c1_ c2_ cz hr hz hw hb
  obtain ⟨W5, hW5⟩ : ∃ W, W = w4.alloc (.cells (D.cpC id (some ⟨g3, 0, none⟩) (some ⟨g4, 0, none⟩) n1 n1 G.length G.length) 30) := ⟨_, rfl⟩
  have b5 : Below w4.heap.size w4 W5 := by rw [hW5]; exact bAl (Below.refl _ _) _
  have RX := hide (show RowIs W5 w4.heap.size (D.cpC id (some ⟨g3, 0, none⟩) (some ⟨g4, 0, none⟩) n1 n1 G.length G.length) 30 by rw [hW5]; exact RowIs.new _ _ _)
  have HW5 := hide hW5.symm
  replace R := hide ((unhide R).keep b5)
  have B5 := hide (bTr (unhide B4) b5)
  replace X1 := hide ((unhide X1).keep b5)
  replace X2 := hide (((unhide X2).keep b5).mono b5.size)
  clear hW5 b5 B4
  go_wp2_with fail
  rw [unhide HW5]
  clear HW5
  refine (D.iCapText_any id _ _ n1 n1 G.length T G W5 (unhide HI) z1 (unhide X1) (unhide HO) (unhide X2) (Nat.le_refl _) (by unfold maxLen; omega) ((unhide HS).keep (unhide B5)) ((unhide HT).keep (unhide B5))).mono ?_
  rintro e w6 ⟨⟨Y, hY, rfl⟩, hb6⟩
  obtain rfl := (unhide HX).uniq hY
  replace R := hide ((unhide R).keep hb6)
  replace RX := hide ((unhide RX).keep hb6)
  have B6 := hide (bTr (unhide B5) hb6)
  replace X1 := hide ((unhide X1).keep hb6)
  replace X2 := hide (((unhide X2).keep hb6).mono hb6.size)
  clear hb6 B5 HX hY HS HT
  have c0 := (unhide R).at (o := 0) (v := .string id) rfl
  have c1_ := (unhide R).at (o := 1) (v := .slice a1 n1 c1) rfl
  have c2_ := (unhide R).at (o := 2) (v := .slice a2 G.length c2) rfl
  have cz := (unhide R).lt
  have d0 := (unhide RX).at (o := 0) (v := .string id) rfl
  have d1 := (unhide RX).at (o := 1) (v := .slice (some ⟨g3, 0, none⟩) n1 n1) rfl
  have d2 := (unhide RX).at (o := 2) (v := .slice (some ⟨g4, 0, none⟩) G.length G.length) rfl
  have dz := (unhide RX).lt
  go_wp2_with fail
  clear c0 c1_ c2_ cz d0 d1 d2 dz
  have CA : Hid (∀ Z, RowIs Z w.heap.size (D.cpC id a1 a2 n1 c1 G.length c2) 25 → RowIs Z w4.heap.size (D.cpC id (some ⟨g3, 0, none⟩) (some ⟨g4, 0, none⟩) n1 n1 G.length G.length) 30 →
      (Z.cell? ⟨w.heap.size, 0, none⟩ = some (.string id) ∧ Z.cell? ⟨w.heap.size, 1, none⟩ = some (.slice a1 n1 c1) ∧ Z.cell? ⟨w.heap.size, 2, none⟩ = some (.slice a2 G.length c2) ∧ Z.cell? ⟨w4.heap.size, 0, none⟩ = some (.string id) ∧ Z.cell? ⟨w4.heap.size, 1, none⟩ = some (.slice (some ⟨g3, 0, none⟩) n1 n1) ∧ Z.cell? ⟨w4.heap.size, 2, none⟩ = some (.slice (some ⟨g4, 0, none⟩) G.length G.length))) :=
    hide (fun Z r1 r2 => ⟨r1.at rfl, r1.at rfl, r1.at rfl, r2.at rfl, r2.at rfl, r2.at rfl⟩)
  have R0 := hide ((unhide R).keep (Below.refl _ _).drew)
  have RX0 := hide ((unhide RX).keep (Below.refl _ _).drew)
  have BD := hide (unhide B6).drew
  have XD1 := hide ((unhide X1).keep (Below.refl _ _).drew)
  have XD2 := hide ((unhide X2).keep (Below.refl _ _).drew)
  have QT := hide (unhide qt (World.drew w6) z1 z2 ((unhide HC).keep (unhide BD)) (((unhide HG).keep (unhide BD)).mono (unhide BD).size))
  clear qt X1 X2 B6
  go_region_held3 (fun Z => Z.cell? ⟨w.heap.size, 0, none⟩ = some (.string id) ∧ Z.cell? ⟨w.heap.size, 1, none⟩ = some (.slice a1 n1 c1) ∧ Z.cell? ⟨w.heap.size, 2, none⟩ = some (.slice a2 G.length c2) ∧ Z.cell? ⟨w4.heap.size, 0, none⟩ = some (.string id) ∧ Z.cell? ⟨w4.heap.size, 1, none⟩ = some (.slice (some ⟨g3, 0, none⟩) n1 n1) ∧ Z.cell? ⟨w4.heap.size, 2, none⟩ = some (.slice (some ⟨g4, 0, none⟩) G.length G.length))
    (first
      | exact unhide CA _ (unhide R0) (unhide RX0)
      | exact unhide CA _ (unhide R8) (unhide RX8)
      | exact unhide CA _ (unhide R7) (unhide RX7))
    (first
      | (go_at_call 6; (with_reducible refine (unhide QT).mono ?_); rintro e w7 ⟨⟨g5, g6, C6, rfl, hr, hz, hw, hb, _, _⟩, hb7⟩; have R7 := hide ((unhide R0).keep hb7); have RX7 := hide ((unhide RX0).keep hb7); have B7 := hide (bTr (unhide BD) hb7); have Y1 := hide (show V.SlCavTerm w7 (some ⟨g5, 0, none⟩) n1 T from ⟨(unhide HC).1, .inr ⟨_, 0, rfl, hw⟩⟩); have Y2 := hide (D.slB_row hb hb.lt); have Z1 := hide ((unhide XD1).keep hb7); have Z2 := hide (((unhide XD2).keep hb7).mono hb7.size); clear hb7 hr hz hw hb)
      | (go_at_call 8; (with_reducible refine (D.eqCap_same id _ _ _ _ n1 n1 G.length G.length n1 G.length T G w7 z1 z2 (unhide Z1) (unhide Z2) (unhide Y1) (unhide Y2)).mono ?_); rintro e w8 ⟨rfl, hb8⟩; have R8 := hide ((unhide R7).keep hb8); have RX8 := hide ((unhide RX7).keep hb8); have B8 := hide (bTr (unhide B7) hb8); clear hb8))
  go_wp2_with fail
  go_ret
  exact ⟨rfl, unhide B8⟩

open V in
set_option maxRecDepth 100000 in
theorem lifted (os : Os) (started : os.Started) (H : Type) (enc : TypeId × Value → H) :
    ReturnsInHanded {} Tryd.checked os 3 .any (fun w args => (Rows.fnExactCapTextSpec.pre enc Tryd.prog Tryd.f3 [] false w args ∧ laidMetH Tryd.prog V.laidT w) ∧ sizedMet enc Tryd.prog Tryd.f3 (OpenSpec.ofChange Rows.fnExactCapTextSpec) false w args)
      (Rows.fnExactCapTextSpec.post enc Tryd.prog Tryd.f3 false true false false) := by
  refine returnsInHanded_of_change_and (C := Tryd.checked) (X := fun w _ => laidMetH Tryd.prog V.laidT w) (fun _ _ _ hh h => h.of_heap hh) V.own started (by kernel_rfl) Tryd.func3
    (ChangeSpec.witness_shaped (enc := enc) (C := Tryd.checked) (os := os) (X := fun w _ => laidMetH Tryd.prog V.laidT w) false (World.doorLaid Tryd.prog 400 os) #[.agg #[.string ByteArray.empty, .slice none 0 0, .slice none 0 0]] 8 rfl (World.shaped_of_RefB (by kernel_rfl) (by kernel_rfl)) (by kernel_rfl) (by kernel_rfl) (by kernel_rfl) (V.door_met os _)) ?_
  intro W base args ds gs before hval0 hW _ _ hL _
  have hval : ∀ (j : Nat) t v, Tryd.f3.params[j]? = some t → args[j]? = some v → Value.okWide Tryd.prog W .any base t v := hval0
  have hW' := hW
  obtain ⟨p, q, hA0, hV0, rfl, hfz, hnd⟩ := hW
  have hA : DataW.TrodAll enc Tryd.prog W 0 (fun _ => true) true Tryd.f3.params.toList args.toList ds p := hA0
  have hV : DataW.TrodVars enc Tryd.prog W (fun _ => true) ["loop.example/g00036/impl.opSigns"] gs q := hV0
  rw [Tryd.params3] at hA hval
  obtain ⟨v0, vs0, d0, ds0, p0, q0, hargs, rfl, rfl, h0, r0⟩ := trodAll_cons hA
  obtain ⟨rfl, rfl, rfl⟩ := trodAll_nil r0
  obtain rfl : args = #[v0] := by cases args; simp_all
  obtain ⟨g, t, cs, fuel, d, p', rfl, hg, ht, hvar, hd, rfl⟩ := trodVars_one hV
  obtain rfl := Option.some.inj (V.gKw.symm.trans hg)
  obtain rfl := Option.some.inj (V.tKw.symm.trans ht)
  obtain rfl : cs = V.cellsK := Option.some.inj (hvar.symm.trans (V.cells_of_laid hL))
  obtain ⟨rfl, rfl⟩ := DataW.Trod.unique (v := .agg V.cellsK) ⟨fuel, hd⟩ ⟨3, V.reads_kw enc W _⟩
  have k0 := h0
  have lt0 : ∀ x ∈ p0, x.block < W.heap.size := by obtain ⟨m, hm⟩ := k0; exact DataW.trod_lt m _ _ _ hm
  obtain ⟨id, b1, b2, n1, c1, n2, c2, T, G, e0, o0, s0, k1, l1, t0, l2⟩ := D.came_Cap (hval 0 25 v0 rfl rfl) h0
  subst e0
  have en := t0.1
  subst en
  clear hA0 hV0 hval0
  have hM := V.signs_of (V.cells_of_laid hL)
  refine (walk id b1 b2 n1 c1 c2 T G W o0 s0 k1 l1 t0 l2 (V.tab_of_laid hL) hM).mono fun e W' ⟨he, bel⟩ => ?_
  subst he
  exact ⟨_, rfl, _, _, _, [], _, _, hW', trodAll_mk1 (shut_bool Tryd.underlying4 _), (trodAll_cons_mk (Below.trod V.laidOut (by kernel_rfl) (of_decide_eq_true (by kernel_rfl)) k0 bel lt0) trodAll_mk0), V.vars_kept enc (V.cells_of_laid hL) hM.z bel, bel.frame _, fun h => by cases h⟩

theorem row : Rows.FnExactCapTextSaid :=
  OpenClaim.holds_of_wide 3 Tryd.f3 rfl rfl rfl rfl rfl rfl rfl ⟨rfl, rfl, rfl, rfl, rfl⟩ rfl rfl rfl rfl rfl (by kernel_rfl) Tryd.func3 (by kernel_rfl)
    (of_decide_eq_true (by kernel_rfl)) (by unfold Func.isWrapper; first | (rw [if_pos (by decide +kernel)]; kernel_rfl) | (rw [if_neg (by decide +kernel)]; exact ⟨rfl, rfl⟩))
    (fun os started H enc _ => lifted os started H enc)
theorem card : Rows.FnExactCapTextCardSaid :=
  Claim7.holds_tied_plain_at .later [] [.data, .data, .data, .data] true (true, "43eef82ad26a6bad3cfa15453f160be220e358917b5b5486db5a6f6aed7de50f") false
    row (fun _ h => by cases h) (by kernel_rfl) (fun _ h => by cases h) fnExactCapText_row_tie rfl ⟨rfl, rfl⟩ (by kernel_rfl) rfl
    (fun f fn hf hfn => by
      obtain rfl : f = 3 := Option.some.inj ((show Tryd.prog.funcNamed "loop.example/g00036/laws.FnExactCapText" = some 3 by kernel_rfl).symm.trans hf) |>.symm
      obtain rfl : fn = Tryd.f3 := (Option.some.inj (Tryd.func3.symm.trans hfn)).symm
      exact ⟨by kernel_rfl, fun j t ht => by
        rw [Tryd.params3] at ht
        have hm : t ∈ [25] := by simpa using Array.mem_of_getElem? ht
        have hall : ([25].all fun u => !Tryd.prog.wantsStandIn u) = true := by kernel_rfl
        exact (show Tryd.prog.wantsStandIn t = false by simpa using List.all_eq_true.1 hall t hm)⟩)
    (by kernel_rfl)
end Go.Proofs.YtfdfglblcgdoiaaDoor.fnExactCapText
namespace Go.Proofs.YtfdfglblcgdoiaaDoor
theorem fnExactCapText_holds : Rows.FnExactCapTextCardSaid := fnExactCapText.card
end Go.Proofs.YtfdfglblcgdoiaaDoor

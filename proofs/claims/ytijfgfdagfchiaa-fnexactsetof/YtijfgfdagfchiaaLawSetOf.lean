/- The row of laws.FnExactSetOf: its walk, then the row's step. -/
import Derived.Test.YtijfgfdagfchiaaRows
import Derived.Test.YtijfgfdagfchiaaSSp
import Derived.Test.YtijfgfdagfchiaaSTo
import Derived.Test.YtijfgfdagfchiaaWEq
import Derived.WalkKit
import Derived.ProofKit
import Derived.OpenShut
import Derived.ShutString
import Derived.ChangeOld
import Derived.Below
import Derived.Lib.SmallJoins
namespace Go.Proofs.Ytijfgfdagfchiaa.fnExactSetOf
open Go.ChangeShapes Go.WideShapes Go.ChangeAt Go.RowKit Go.Joins
open Go.ChangeMaps (open_string shut_string)
set_option linter.unusedVariables false

theorem own : ownKnob Try.prog.godebug = none := by kernel_rfl
theorem laidOut : laidOutB Try.prog = true := by kernel_rfl

open V in
set_option maxRecDepth 20000 in
set_option maxHeartbeats 8000000 in
theorem walk (l : List V.AtomT) (a : Option Addr) (len cap : Nat) (w : World) (hs : V.SlA w a len l) (hok : ∀ q ∈ l, V.AtomT.Ok q) (hm : len ≤ maxLen) :
    Calls Try.prog 4 #[.slice a len cap] w fun e w' => e = .returned (.bool true) ∧ Below w.heap.size w w' := by
  have HS := hide hs
  have HO := hide hok
  have HM := hide hm
  have qz := hide (szAtomS_any a len cap l 1048576 w (by omega) (by omega) hm hs hok)
  clear hs hok hm
  go_enter Try.func4, Try.ntmps4
  go_wp2_with fail
  refine (unhide qz).mono ?_
  rintro e w1 ⟨⟨m, hm1, hm2, hm3, rfl⟩, hb1⟩
  have B := hide hb1
  clear hb1 qz
  by_cases hm : m < 0
  · go_wp2_with fail
    go_ret
    exact ⟨rfl, unhide B⟩
  have g1 : len ≤ 1048576 := by have := hm3 (by omega); omega
  have qt := hide (fun w h => toAtomS_own a len cap l w g1 h)
  clear hm1 hm2 hm3
  go_wp2_with fail
  refine (unhide qt _ ((unhide HS).keep (unhide B))).mono ?_
  rintro e w2 ⟨rfl, ow2, hb2⟩
  have s2 := (unhide B).size
  replace B := hide (bTr (unhide B) hb2)
  have q2 := hide (sSetOf_any _ len len l w2 (unhide HM) (by have := sla_own (l := l) ow2; exact this) (unhide HO))
  clear ow2 hb2
  go_wp2_with fail
  refine (unhide q2).mono ?_
  rintro e w3 ⟨⟨v, v1, v2, rfl, ow3, hvi⟩, hb3⟩
  have s3 := hb3.size
  replace B := hide (bTr (unhide B) hb3)
  obtain ⟨a1, c1, e1⟩ := own_sl ow3.i
  subst e1
  obtain ⟨a2, c2, e2⟩ := own_sl ow3.n
  subst e2
  obtain ⟨li, ln⟩ := (unhide hvi).len
  have ba := bAl (Below.refl w3.heap.size w3) (.cells #[.int .i64 v.k, .int .i64 v.a.x, .int .i64 v.a.n, .string v.a.t, .string v.a.y, .slice a1 v.items.length c1, .slice a2 v.names.length c2] 29)
  have R0 := hide (RowIs.new w3 #[.int .i64 v.k, .int .i64 v.a.x, .int .i64 v.a.n, .string v.a.t, .string v.a.y, .slice a1 v.items.length c1, .slice a2 v.names.length c2] 29)
  have OW := hide (ow3.keep ba)
  have lt0 := hide (show (∀ g, (Value.slice a1 v.items.length c1).ownBlock = some g → g < w3.heap.size) ∧ (∀ g, (Value.slice a2 v.names.length c2).ownBlock = some g → g < w3.heap.size) from ⟨fun g e => (ow3.i.lt g e).2, fun g e => (ow3.n.lt g e).2⟩)
  replace B := hide (bTr (unhide B) ba)
  obtain ⟨W1, hW1⟩ : ∃ W1, W1 = w3.alloc (.cells #[.int .i64 v.k, .int .i64 v.a.x, .int .i64 v.a.n, .string v.a.t, .string v.a.y, .slice a1 v.items.length c1, .slice a2 v.names.length c2] 29) := ⟨_, rfl⟩
  have sW1 : w3.heap.size + 1 = W1.heap.size := by rw [hW1]; simp
  have HW1 := hide hW1.symm
  rw [← hW1] at R0 OW B
  have sB := (unhide B).size
  clear hW1 ow3 hb3 ba q2
  unfold VRet
  iterate 10 (try (first | go_values | go_skip | go_guarded | go_step | go_upon | go_simp))
  rw [unhide HW1]
  clear HW1
  go_wp2_with fail
  refine (unhide qt _ ((unhide HS).keep (unhide B))).mono ?_
  rintro e w4 ⟨rfl, ow4, hb4⟩
  have s4 := hb4.size
  replace B := hide (bTr (unhide B) hb4)
  replace R0 := hide ((unhide R0).keep hb4)
  replace OW := hide ((unhide OW).keep hb4)
  obtain ⟨bx, hbx⟩ : ∃ bx, bx = W1.heap.size := ⟨_, rfl⟩
  have XO := hide ow4
  rw [← hbx] at XO ⊢
  have lx : bx < w4.heap.size := ((unhide XO).lt bx rfl).2
  have hx0 : w.heap.size ≤ bx := by omega
  have hx1 : w3.heap.size < bx := by omega
  clear ow4 hb4 hbx sW1 sB
  have q2 := hide (fun (aa : Option Addr) (w : World) (h : SlA w aa len l) => iSetOf_any aa len len l w (unhide HM) h (unhide HO))
  go_wp2_with fail
  refine (unhide q2 _ _ (sla_own (l := l) (unhide XO))).mono ?_
  rintro e w5 ⟨⟨v', u1, u2, rfl, ow5, hvi2⟩, hb5⟩
  have s5 := hb5.size
  replace B := hide (bTr (unhide B) hb5)
  replace R0 := hide ((unhide R0).keep hb5)
  replace OW := hide ((unhide OW).keep hb5)
  replace XO := hide (own_keepT (unhide XO) hb5)
  have e3 := (unhide hvi).uniq (unhide hvi2)
  subst e3
  obtain ⟨b1, d1, e1⟩ := own_sl ow5.i
  subst e1
  obtain ⟨b2, d2, e2⟩ := own_sl ow5.n
  subst e2
  have ba := bAl (Below.refl w5.heap.size w5) (.cells #[.int .i64 v.k, .int .i64 v.a.x, .int .i64 v.a.n, .string v.a.t, .string v.a.y, .slice b1 v.items.length d1, .slice b2 v.names.length d2] 29)
  have G0 := hide (RowIs.new w5 #[.int .i64 v.k, .int .i64 v.a.x, .int .i64 v.a.n, .string v.a.t, .string v.a.y, .slice b1 v.items.length d1, .slice b2 v.names.length d2] 29)
  have GW := hide (ow5.keep ba)
  have ltg := hide (show (∀ g, (Value.slice b1 v.items.length d1).ownBlock = some g → g < w5.heap.size) ∧ (∀ g, (Value.slice b2 v.names.length d2).ownBlock = some g → g < w5.heap.size) from ⟨fun g e => (ow5.i.lt g e).2, fun g e => (ow5.n.lt g e).2⟩)
  replace B := hide (bTr (unhide B) ba)
  replace R0 := hide ((unhide R0).keep ba)
  replace OW := hide ((unhide OW).keep ba)
  replace XO := hide (own_keepT (unhide XO) ba)
  obtain ⟨W2, hW2⟩ : ∃ W2, W2 = w5.alloc (.cells #[.int .i64 v.k, .int .i64 v.a.x, .int .i64 v.a.n, .string v.a.t, .string v.a.y, .slice b1 v.items.length d1, .slice b2 v.names.length d2] 29) := ⟨_, rfl⟩
  have sW2 : w5.heap.size + 1 = W2.heap.size := by rw [hW2]; simp
  have HW2 := hide hW2.symm
  rw [← hW2] at R0 OW XO B G0 GW
  have nab : ¬ w5.heap.size = w3.heap.size := by omega
  clear hW2 ow5 hb5 ba hvi2
  unfold VRet
  iterate 10 (try (first | go_values | go_skip | go_guarded | go_step | go_upon | go_simp))
  rw [unhide HW2]
  clear HW2
  have ml1 : v.items.length ≤ maxLen := by unfold maxLen; omega
  have ml2 : v.names.length ≤ maxLen := by unfold maxLen; omega
  have ML1 := hide ml1
  have ML2 := hide ml2
  clear ml1 ml2
  have m0 := (unhide R0).at (o := 0) (v := .int .i64 v.k) rfl
  have m1 := (unhide R0).at (o := 1) (v := .int .i64 v.a.x) rfl
  have m2 := (unhide R0).at (o := 2) (v := .int .i64 v.a.n) rfl
  have m3 := (unhide R0).at (o := 3) (v := .string v.a.t) rfl
  have m4 := (unhide R0).at (o := 4) (v := .string v.a.y) rfl
  have m5 := (unhide R0).at (o := 5) (v := .slice a1 v.items.length c1) rfl
  have m6 := (unhide R0).at (o := 6) (v := .slice a2 v.names.length c2) rfl
  have n0 := (unhide G0).at (o := 0) (v := .int .i64 v.k) rfl
  have n1 := (unhide G0).at (o := 1) (v := .int .i64 v.a.x) rfl
  have n2 := (unhide G0).at (o := 2) (v := .int .i64 v.a.n) rfl
  have n3 := (unhide G0).at (o := 3) (v := .string v.a.t) rfl
  have n4 := (unhide G0).at (o := 4) (v := .string v.a.y) rfl
  have n5 := (unhide G0).at (o := 5) (v := .slice b1 v.items.length d1) rfl
  have n6 := (unhide G0).at (o := 6) (v := .slice b2 v.names.length d2) rfl
  have qe := hide (eqValue_same v b1 b2 a1 a2 v.items.length d1 v.names.length d2 v.items.length c1 v.names.length c2 W2 (unhide ML1) (unhide ML2) (sla_own (unhide GW).i) (sls_own (unhide GW).n) (sla_own (unhide OW).i) (sls_own (unhide OW).n))
  go_wp2_with fail
  refine (unhide qe).mono ?_
  rintro e w6 ⟨rfl, hbe⟩
  replace B := hide (bTr (unhide B) hbe)
  replace R0 := hide ((unhide R0).keep hbe)
  replace OW := hide ((unhide OW).keep hbe)
  replace XO := hide (own_keepT (unhide XO) hbe)
  replace G0 := hide ((unhide G0).keep hbe)
  replace GW := hide ((unhide GW).keep hbe)
  have s_w6 := hbe.size
  clear hbe qe m0 n0 m1 n1 m2 n2 m3 n3 m4 n4 m5 n5 m6 n6
  go_wp2_with fail
  refine (unhide qt _ ((unhide HS).keep (unhide B))).mono ?_
  rintro e w7 ⟨rfl, ow7, hb7⟩
  have s7 := hb7.size
  replace B := hide (bTr (unhide B) hb7)
  replace R0 := hide ((unhide R0).keep hb7)
  replace OW := hide ((unhide OW).keep hb7)
  replace XO := hide (own_keepT (unhide XO) hb7)
  replace G0 := hide ((unhide G0).keep hb7)
  replace GW := hide ((unhide GW).keep hb7)
  have q3 := hide (eqAtomS_same _ _ len len len len l w7 (sla_own (l := l) (unhide XO)) (sla_own (l := l) ow7) (unhide HM))
  clear ow7 hb7
  go_wp2_with fail
  refine (unhide q3).mono ?_
  rintro e w8 ⟨rfl, hb8⟩
  have s8 := hb8.size
  replace B := hide (bTr (unhide B) hb8)
  replace R0 := hide ((unhide R0).keep hb8)
  replace OW := hide ((unhide OW).keep hb8)
  replace XO := hide (own_keepT (unhide XO) hb8)
  replace G0 := hide ((unhide G0).keep hb8)
  replace GW := hide ((unhide GW).keep hb8)
  clear hb8 q3
  have q4 := hide (markAtom_own _ len 1 (atomsV l) bx w8 g1 (by omega) (by omega) (unhide XO))
  have zk : decide (((1 + len * 4 : Nat) : Int) < 0) = false := decide_eq_false (by omega)
  have zk2 : ¬ ((1 + len * 4 : Nat) : Int) < 0 := by omega
  generalize (1 + len * 4 : Nat) = K at q4 zk zk2
  go_wp2_with fail
  refine (unhide q4).mono ?_
  rintro e w9 ⟨rfl, _, hg9⟩
  have hg : w8.grownBy w9 (some bx) := hg9
  have s9 := hg.size
  replace R0 := hide ((unhide R0).grown hg (fun e => by have := Option.some.inj e; omega))
  replace G0 := hide ((unhide G0).grown hg (fun e => by have := Option.some.inj e; omega))
  replace OW := hide ((unhide OW).grown hg (ne_own (fun g e => by have := (unhide lt0).1 g e; omega)) (ne_own (fun g e => by have := (unhide lt0).2 g e; omega)))
  replace GW := hide ((unhide GW).grown hg (ne_own (fun g e => by have := ((unhide GW).i.lt g e).1; omega)) (ne_own (fun g e => by have := ((unhide GW).n.lt g e).1; omega)))
  replace B := hide ((unhide B).grown hg (unhide B).size (fun j h => by cases h; exact hx0))
  clear hg hg9 q4 XO
  have m0 := (unhide R0).at (o := 0) (v := .int .i64 v.k) rfl
  have m1 := (unhide R0).at (o := 1) (v := .int .i64 v.a.x) rfl
  have m2 := (unhide R0).at (o := 2) (v := .int .i64 v.a.n) rfl
  have m3 := (unhide R0).at (o := 3) (v := .string v.a.t) rfl
  have m4 := (unhide R0).at (o := 4) (v := .string v.a.y) rfl
  have m5 := (unhide R0).at (o := 5) (v := .slice a1 v.items.length c1) rfl
  have m6 := (unhide R0).at (o := 6) (v := .slice a2 v.names.length c2) rfl
  have n0 := (unhide G0).at (o := 0) (v := .int .i64 v.k) rfl
  have n1 := (unhide G0).at (o := 1) (v := .int .i64 v.a.x) rfl
  have n2 := (unhide G0).at (o := 2) (v := .int .i64 v.a.n) rfl
  have n3 := (unhide G0).at (o := 3) (v := .string v.a.t) rfl
  have n4 := (unhide G0).at (o := 4) (v := .string v.a.y) rfl
  have n5 := (unhide G0).at (o := 5) (v := .slice b1 v.items.length d1) rfl
  have n6 := (unhide G0).at (o := 6) (v := .slice b2 v.names.length d2) rfl
  have qe := hide (eqValue_same v b1 b2 a1 a2 v.items.length d1 v.names.length d2 v.items.length c1 v.names.length c2 w9 (unhide ML1) (unhide ML2) (sla_own (unhide GW).i) (sls_own (unhide GW).n) (sla_own (unhide OW).i) (sls_own (unhide OW).n))
  go_wp2_with fail
  refine (unhide qe).mono ?_
  rintro e w10 ⟨rfl, hbe⟩
  replace B := hide (bTr (unhide B) hbe)
  replace R0 := hide ((unhide R0).keep hbe)
  replace OW := hide ((unhide OW).keep hbe)
  replace G0 := hide ((unhide G0).keep hbe)
  replace GW := hide ((unhide GW).keep hbe)
  have s_w10 := hbe.size
  clear hbe qe m0 n0 m1 n1 m2 n2 m3 n3 m4 n4 m5 n5 m6 n6
  have qm := hide (markValue_own v _ _ w4.heap.size w10 li ln (by omega) (unhide GW))
  have n0 := (unhide G0).at (o := 0) (v := .int .i64 v.k) rfl
  have n1 := (unhide G0).at (o := 1) (v := .int .i64 v.a.x) rfl
  have n2 := (unhide G0).at (o := 2) (v := .int .i64 v.a.n) rfl
  have n3 := (unhide G0).at (o := 3) (v := .string v.a.t) rfl
  have n4 := (unhide G0).at (o := 4) (v := .string v.a.y) rfl
  have n5 := (unhide G0).at (o := 5) (v := .slice b1 v.items.length d1) rfl
  have n6 := (unhide G0).at (o := 6) (v := .slice b2 v.names.length d2) rfl
  unfold VRet at qm
  go_wp2_with fail
  refine (unhide qm).mono ?_
  rintro e w11 ⟨rfl, hm11, hb11, hr11⟩
  have M4 := hide hm11
  replace G0 := hide (hr11 _ _ _ (unhide G0) (fun g e => by have := (unhide ltg).1 g e; omega) (fun g e => by have := (unhide ltg).2 g e; omega))
  replace R0 := hide (RowIs.keepB (unhide R0) hb11 (by omega))
  replace OW := hide ((unhide OW).keepB hb11 (fun g e => by have := (unhide lt0).1 g e; omega) (fun g e => by have := (unhide lt0).2 g e; omega))
  replace B := hide (show Below w.heap.size w w11 from (unhide B).trans (hb11.mono (by omega)))
  have s11 := hb11.size
  clear hm11 hb11 hr11 qm GW n0 n1 n2 n3 n4 n5 n6
  have qh := hide (heldValue_own v _ _ w11 li ln (unhide M4) ⟨_, _, rfl⟩ ⟨_, _, rfl⟩)
  have n0 := (unhide G0).at (o := 0) (v := .int .i64 v.k) rfl
  have n1 := (unhide G0).at (o := 1) (v := .int .i64 v.a.x) rfl
  have n2 := (unhide G0).at (o := 2) (v := .int .i64 v.a.n) rfl
  have n3 := (unhide G0).at (o := 3) (v := .string v.a.t) rfl
  have n4 := (unhide G0).at (o := 4) (v := .string v.a.y) rfl
  have n5 := (unhide G0).at (o := 5) (v := .slice b1 v.items.length d1) rfl
  have n6 := (unhide G0).at (o := 6) (v := .slice b2 v.names.length d2) rfl
  unfold VRet at qh
  have z0 : decide (((1 + v.items.length * 4 + v.names.length : Nat) : Int) < 0) = false := decide_eq_false (by omega)
  obtain ⟨Q, hQ⟩ : ∃ Q : Nat, 1 + v.items.length * 4 + v.names.length = Q := ⟨_, rfl⟩
  rw [hQ] at qh z0 ⊢
  have z1 : ¬ ((Q : Nat) : Int) < 0 := by omega
  go_wp2_with fail
  refine (unhide qh).mono ?_
  rintro e w12 ⟨rfl, hb12⟩
  replace B := hide (bTr (unhide B) hb12)
  replace R0 := hide ((unhide R0).keep hb12)
  replace OW := hide ((unhide OW).keep hb12)
  replace G0 := hide ((unhide G0).keep hb12)
  replace M4 := hide ((unhide M4).keep hb12)
  have s12 := hb12.size
  clear hb12 qh n0 n1 n2 n3 n4 n5 n6
  go_wp2_with fail
  refine (unhide qt _ ((unhide HS).keep (unhide B))).mono ?_
  rintro e w13 ⟨rfl, ow13, hb13⟩
  have s13 := hb13.size
  have S13 := hide (sla_own (l := l) ow13)
  replace B := hide (bTr (unhide B) hb13)
  replace R0 := hide ((unhide R0).keep hb13)
  replace OW := hide ((unhide OW).keep hb13)
  replace G0 := hide ((unhide G0).keep hb13)
  replace M4 := hide ((unhide M4).keep hb13)
  clear ow13 hb13
  go_wp2_with fail
  refine (unhide q2 _ _ (unhide S13)).mono ?_
  rintro e w14 ⟨⟨v', u1, u2, rfl, ow14, hvi2⟩, hb14⟩
  have s14 := hb14.size
  replace B := hide (bTr (unhide B) hb14)
  replace R0 := hide ((unhide R0).keep hb14)
  replace OW := hide ((unhide OW).keep hb14)
  replace G0 := hide ((unhide G0).keep hb14)
  replace M4 := hide ((unhide M4).keep hb14)
  have e3 := (unhide hvi).uniq (unhide hvi2)
  subst e3
  obtain ⟨p1, r1, e1⟩ := own_sl ow14.i
  subst e1
  obtain ⟨p2, r2, e2⟩ := own_sl ow14.n
  subst e2
  have ba := bAl (Below.refl w14.heap.size w14) (.cells #[.int .i64 v.k, .int .i64 v.a.x, .int .i64 v.a.n, .string v.a.t, .string v.a.y, .slice p1 v.items.length r1, .slice p2 v.names.length r2] 29)
  have H0 := hide (RowIs.new w14 #[.int .i64 v.k, .int .i64 v.a.x, .int .i64 v.a.n, .string v.a.t, .string v.a.y, .slice p1 v.items.length r1, .slice p2 v.names.length r2] 29)
  have HW := hide (ow14.keep ba)
  replace B := hide (bTr (unhide B) ba)
  replace R0 := hide ((unhide R0).keep ba)
  replace OW := hide ((unhide OW).keep ba)
  replace G0 := hide ((unhide G0).keep ba)
  replace M4 := hide ((unhide M4).keep ba)
  obtain ⟨W6, hW6⟩ : ∃ W6, W6 = w14.alloc (.cells #[.int .i64 v.k, .int .i64 v.a.x, .int .i64 v.a.n, .string v.a.t, .string v.a.y, .slice p1 v.items.length r1, .slice p2 v.names.length r2] 29) := ⟨_, rfl⟩
  have HW6 := hide hW6.symm
  rw [← hW6] at H0 HW M4 G0 R0 OW B
  clear hW6 ow14 hb14 ba hvi2 S13
  unfold VRet
  iterate 10 (try (first | go_values | go_skip | go_guarded | go_step | go_upon | go_simp))
  rw [unhide HW6]
  clear HW6
  have m0 := (unhide R0).at (o := 0) (v := .int .i64 v.k) rfl
  have m1 := (unhide R0).at (o := 1) (v := .int .i64 v.a.x) rfl
  have m2 := (unhide R0).at (o := 2) (v := .int .i64 v.a.n) rfl
  have m3 := (unhide R0).at (o := 3) (v := .string v.a.t) rfl
  have m4 := (unhide R0).at (o := 4) (v := .string v.a.y) rfl
  have m5 := (unhide R0).at (o := 5) (v := .slice a1 v.items.length c1) rfl
  have m6 := (unhide R0).at (o := 6) (v := .slice a2 v.names.length c2) rfl
  have n0 := (unhide H0).at (o := 0) (v := .int .i64 v.k) rfl
  have n1 := (unhide H0).at (o := 1) (v := .int .i64 v.a.x) rfl
  have n2 := (unhide H0).at (o := 2) (v := .int .i64 v.a.n) rfl
  have n3 := (unhide H0).at (o := 3) (v := .string v.a.t) rfl
  have n4 := (unhide H0).at (o := 4) (v := .string v.a.y) rfl
  have n5 := (unhide H0).at (o := 5) (v := .slice p1 v.items.length r1) rfl
  have n6 := (unhide H0).at (o := 6) (v := .slice p2 v.names.length r2) rfl
  have qe := hide (eqValue_same v p1 p2 a1 a2 v.items.length r1 v.names.length r2 v.items.length c1 v.names.length c2 W6 (unhide ML1) (unhide ML2) (sla_own (unhide HW).i) (sls_own (unhide HW).n) (sla_own (unhide OW).i) (sls_own (unhide OW).n))
  go_wp2_with fail
  refine (unhide qe).mono ?_
  rintro e w15 ⟨rfl, hbe⟩
  replace B := hide (bTr (unhide B) hbe)
  replace G0 := hide ((unhide G0).keep hbe)
  replace M4 := hide ((unhide M4).keep hbe)
  have s_w15 := hbe.size
  clear hbe qe m0 n0 m1 n1 m2 n2 m3 n3 m4 n4 m5 n5 m6 n6
  have qh := hide (heldValue_own v _ _ w15 li ln (unhide M4) ⟨_, _, rfl⟩ ⟨_, _, rfl⟩)
  unfold VRet at qh
  rw [hQ] at qh
  have n0 := (unhide G0).at (o := 0) (v := .int .i64 v.k) rfl
  have n1 := (unhide G0).at (o := 1) (v := .int .i64 v.a.x) rfl
  have n2 := (unhide G0).at (o := 2) (v := .int .i64 v.a.n) rfl
  have n3 := (unhide G0).at (o := 3) (v := .string v.a.t) rfl
  have n4 := (unhide G0).at (o := 4) (v := .string v.a.y) rfl
  have n5 := (unhide G0).at (o := 5) (v := .slice b1 v.items.length d1) rfl
  have n6 := (unhide G0).at (o := 6) (v := .slice b2 v.names.length d2) rfl
  go_wp2_with fail
  refine (unhide qh).mono ?_
  rintro e w16 ⟨rfl, hb16⟩
  replace B := hide (bTr (unhide B) hb16)
  clear hb16 qh n0 n1 n2 n3 n4 n5 n6
  go_wp2_with fail
  go_ret
  exact ⟨rfl, unhide B⟩

set_option maxRecDepth 100000 in
theorem lifted (os : Os) (started : os.Started) (H : Type) (enc : TypeId × Value → H) :
    ReturnsInHanded {} Try.checked os 4 .any (Rows.fnExactSetOfSpec.pre6 enc Try.prog Try.f4 Rows.fnExactSetOfRow.domain false) (Rows.fnExactSetOfSpec.post enc Try.prog Try.f4 false true false false) := by
  refine returnsInHanded_of_change (C := Try.checked) own started (by kernel_rfl) Try.func4
    (ChangeSpec.witness6 (enc := enc) (C := Try.checked) false ⟨#[], #[.slice none 0 0], []⟩ 8 (by kernel_rfl) (by kernel_rfl) (by kernel_rfl) (by kernel_rfl)) ?_
  intro W base args ds gs before hval0 hW hcnd _
  have hval : ∀ (j : Nat) t v, Try.f4.params[j]? = some t → args[j]? = some v → Value.okWide Try.prog W .any base t v := hval0
  have hW' := hW
  obtain ⟨p, q, hA0, hV, rfl, hfz, hnd⟩ := hW
  have hA : DataW.TrodAll enc Try.prog W 0 (fun _ => true) true Try.f4.params.toList args.toList ds p := hA0
  rw [Try.params4] at hA hval
  obtain ⟨v0, vs0, d0, ds0, p0, q0, hargs, rfl, rfl, h0, r0⟩ := trodAll_cons hA
  obtain ⟨rfl, rfl, rfl⟩ := trodAll_nil r0
  obtain rfl : args = #[v0] := by cases args; simp_all
  obtain ⟨rfl, rfl⟩ := trodVars_none hV
  have k0 := h0
  have lt0 : ∀ x ∈ p0, x.block < W.heap.size := by obtain ⟨m, hm⟩ := k0; exact DataW.trod_lt m _ _ _ hm
  obtain ⟨l0, a0, len0, cap0, e0, s0, o0, m0⟩ := V.read_Atoms (hval 0 34 v0 rfl rfl) h0
  subst e0
  clear hA0 hval0
  refine (walk l0 a0 len0 cap0 W s0 o0 m0).mono fun e W' ⟨he, bel⟩ => ?_
  subst he
  exact ⟨_, rfl, _, _, _, [], _, [], hW', trodAll_mk1 (shut_bool Try.underlying4 _), (trodAll_cons_mk (Below.trod laidOut (by kernel_rfl) (of_decide_eq_true (by kernel_rfl)) k0 bel lt0) trodAll_mk0), rfl, bel.frame _, fun h => by cases h⟩

theorem over : Rows.fnExactSetOfRow.holds Try.pinned (OpenSpec.ofChange Rows.fnExactSetOfSpec) :=
  OpenClaim.holds_of_wide 4 Try.f4 rfl rfl rfl rfl rfl rfl rfl ⟨rfl, rfl, rfl, rfl, rfl⟩ rfl rfl rfl rfl rfl (by kernel_rfl) Try.func4 (by kernel_rfl)
    (of_decide_eq_true (by kernel_rfl)) (by unfold Func.isWrapper; rw [if_neg (by decide +kernel)]; exact ⟨rfl, rfl⟩)
    (fun os started H enc _ => lifted os started H enc)
end Go.Proofs.Ytijfgfdagfchiaa.fnExactSetOf
namespace Go.Proofs.Ytijfgfdagfchiaa
theorem fnExactSetOf_holds : Rows.FnExactSetOfSaid := fnExactSetOf.over
end Go.Proofs.Ytijfgfdagfchiaa

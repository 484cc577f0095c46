/- LawJuniorsOf, one behind the other. -/
import Derived.Test.YtfabfgokammmhaaGreatRows
import Derived.Test.YtfabfgokammmhaaGreatJ26
import Derived.Test.YtfabfgokammmhaaGreatOMk
import Derived.Test.YtfabfgokammmhaaGreatJ24
import Derived.WalkKit
import Derived.ProofKit
import Derived.OpenShut
import Derived.ShutString
import Derived.ChangeOld
import Derived.Below
import Derived.Lib.SmallJoins
import Derived.Deep.RegionHeld3
/- The row of laws.FnExactJuniorsOf: its walk, then the row's step. -/
namespace Go.Proofs.YtfabfgokammmhaaGreat.fnExactJuniorsOf
open Go.ChangeShapes Go.WideShapes Go.ChangeAt Go.RowKit Go.Joins
open Go.ChangeMaps (open_string shut_string)
set_option linter.unusedVariables false

theorem own : ownKnob Tryz.prog.godebug = none := by kernel_rfl
theorem laidOut : laidOutB Tryz.prog = true := by kernel_rfl

theorem own_str9 {w : World} {base cap : Nat} {a : Option Addr} {l : List ByteArray} (h : w.ownsRow base 9 1 (.slice a l.length cap) l.length (l.map Value.string)) : SlS w a l.length l := by
  obtain ⟨a', c', e, s⟩ := own_strs h
  cases e
  exact s
open V in
set_option maxRecDepth 40000 in
set_option maxHeartbeats 8000000 in
theorem walk (e : V.RoleSetE) (role : ByteArray) (w : World) (hn : V.RoleSetN e.t) (hm : V.RoleSetM w 0 e) (hr : role.size ≤ maxLen) :
    Calls Tryz.prog 3 #[.agg #[.slice e.h0.a e.h0.len e.h0.cap, .slice e.h1.a e.h1.len e.h1.cap, .slice e.h2.a e.h2.len e.h2.cap], .string role] w fun r w' => r = .returned (.bool true) ∧ Below w.heap.size w w' := by
  have qz := hide (fun q w h0 h1 hm => V.szRoleSet_n e q w h0 h1 hn hm)
  have qt := hide (fun w hs hm => V.toRoleSet_n e w hs hm)
  have HN := hide hn
  have HM := hide hm
  have HR := hide hr
  have QV := hide (V.RowIs.new w #[.slice e.h0.a e.h0.len e.h0.cap, .slice e.h1.a e.h1.len e.h1.cap, .slice e.h2.a e.h2.len e.h2.cap] 26)
  have B := hide (bAl (Below.refl w.heap.size w) (.cells #[.slice e.h0.a e.h0.len e.h0.cap, .slice e.h1.a e.h1.len e.h1.cap, .slice e.h2.a e.h2.len e.h2.cap] 26))
  have qS : Hid (∀ (e2 : V.RoleSetE) (w2 : World), e2.t = e.t → V.RoleSetM w2 0 e2 → Calls Tryz.prog 5 #[.agg #[.slice e2.h0.a e2.h0.len e2.h0.cap, .slice e2.h1.a e2.h1.len e2.h1.cap, .slice e2.h2.a e2.h2.len e2.h2.cap], .string role] w2 fun r w' => (∃ v rr, r = .returned v ∧ V.JunIs e.t role rr ∧ w'.ownsRow w2.heap.size 9 1 v rr.length (rr.map Value.string)) ∧ Below w2.heap.size w2 w') := hide (fun e2 w2 t2 m2 => (V.sJuniorsOf_n e2 role w2 hr (by rw [t2]; exact hn) m2).mono fun _ _ h => by rw [t2] at h; exact h)
  have qI : Hid (∀ (e2 : V.RoleSetE) (w2 : World), e2.t = e.t → V.RoleSetM w2 0 e2 → Calls Tryz.prog 7 #[.agg #[.slice e2.h0.a e2.h0.len e2.h0.cap, .slice e2.h1.a e2.h1.len e2.h1.cap, .slice e2.h2.a e2.h2.len e2.h2.cap], .string role] w2 fun r w' => (∃ v rr, r = .returned v ∧ V.JunIs e.t role rr ∧ w'.ownsRow w2.heap.size 9 1 v rr.length (rr.map Value.string)) ∧ Below w2.heap.size w2 w') := hide (fun e2 w2 t2 m2 => (V.iJuniorsOf_n e2 role w2 hr (by rw [t2]; exact hn) m2).mono fun _ _ h => by rw [t2] at h; exact h)
  clear hn hm
  unfold maxLen at hr
  go_enter Tryz.func3, Tryz.ntmps3
  by_cases hbig : 1048576 < role.size
  · have d : decide ((1048576 : Int) < (role.size : Int)) = true := decide_eq_true (by omega)
    go_wp2_with fail
    go_ret
    exact ⟨rfl, unhide B⟩
  have d : decide ((1048576 : Int) < (role.size : Int)) = false := by simp; omega
  have v0 := (unhide QV).at (o := 0) (v := .slice e.h0.a e.h0.len e.h0.cap) rfl
  have v1 := (unhide QV).at (o := 1) (v := .slice e.h1.a e.h1.len e.h1.cap) rfl
  have v2 := (unhide QV).at (o := 2) (v := .slice e.h2.a e.h2.len e.h2.cap) rfl
  go_wp2_with fail
  refine (unhide qz _ _ (by omega) (by omega) ((unhide HM).keep (unhide B))).mono ?_
  rintro r w1 ⟨⟨m, hm1, hm2, hm3, rfl⟩, hb1⟩
  replace QV := hide ((unhide QV).keep hb1)
  replace B := hide (bTr (unhide B) hb1)
  clear hb1 qz v0 v1 v2
  by_cases hlt : m < 0
  · go_wp2_with fail
    go_ret
    exact ⟨rfl, unhide B⟩
  have SM := hide (hm3 (by omega))
  have QT := hide (fun w hm => unhide qt w (unhide SM) hm)
  clear qt hm3
  have v0 := (unhide QV).at (o := 0) (v := .slice e.h0.a e.h0.len e.h0.cap) rfl
  have v1 := (unhide QV).at (o := 1) (v := .slice e.h1.a e.h1.len e.h1.cap) rfl
  have v2 := (unhide QV).at (o := 2) (v := .slice e.h2.a e.h2.len e.h2.cap) rfl
  go_wp2_with fail
  refine (unhide QT _ ((unhide HM).keep (unhide B))).mono ?_
  rintro r w2 ⟨⟨e2, t2, rfl, m2⟩, hb2⟩
  have hs2 := hide (unhide qS e2 w2 t2 (m2.lo (Nat.zero_le _)))
  replace QV := hide ((unhide QV).keep hb2)
  replace B := hide (bTr (unhide B) hb2)
  clear hb2 m2 t2 v0 v1 v2 qS
  go_wp2_with fail
  refine (unhide hs2).mono ?_
  rintro r w3 ⟨⟨u1, r1, rfl, an1, ow1⟩, hb3⟩
  have AN1 := hide an1
  have OW1 := hide ow1
  replace QV := hide ((unhide QV).keep hb3)
  replace B := hide (bTr (unhide B) hb3)
  clear hb3 hs2 an1 ow1
  obtain ⟨a1, c1, e1, s1⟩ := own_strs (unhide OW1)
  subst e1
  clear s1
  have LR := (unhide AN1).len
  have lo0 : Hid (0 < w3.heap.size) := hide (Nat.lt_of_le_of_lt (Nat.zero_le _) (unhide QV).lt)
  have g0 : Hid (∀ g, (Value.slice a1 r1.length c1).ownBlock = some g → g < w3.heap.size) := hide (fun g e => ((unhide OW1).lt g e).2)
  have wl : Hid (w.heap.size < w3.heap.size) := hide (unhide QV).lt
  have v0 := (unhide QV).at (o := 0) (v := .slice e.h0.a e.h0.len e.h0.cap) rfl
  have v1 := (unhide QV).at (o := 1) (v := .slice e.h1.a e.h1.len e.h1.cap) rfl
  have v2 := (unhide QV).at (o := 2) (v := .slice e.h2.a e.h2.len e.h2.cap) rfl
  go_wp2_with fail
  refine (unhide QT _ ((unhide HM).keep (unhide B))).mono ?_
  rintro r w4 ⟨⟨e4, t4, rfl, m4⟩, hb4⟩
  have SH : Hid (ShR w4 w3.heap.size w4.heap.size e4.h0 ∧ ShP w4 w3.heap.size w4.heap.size e4.h1 ∧ ShS w4 w3.heap.size w4.heap.size e4.h2) := hide ⟨shR_of m4.m0 (by rw [t4]; exact (unhide SM).o0) (unhide lo0), shP_of m4.m1 (by rw [t4]; exact (unhide SM).o1) (unhide lo0), shS_of m4.m2 (unhide lo0)⟩
  have L4 : Hid (e4.h0.len ≤ 1048576 ∧ e4.h1.len ≤ 1048576 ∧ e4.h2.len ≤ 1048576) := hide ⟨by rw [m4.m0.len, t4]; exact (unhide SM).l0, by rw [m4.m1.len, t4]; exact (unhide SM).l1, by rw [m4.m2.1, t4]; exact (unhide SM).l2⟩
  have S4 := hide (m4.lo (Nat.zero_le _))
  have T4 := hide t4
  have LH : Hid (w3.heap.size ≤ w4.heap.size) := hide hb4.size
  replace QV := hide ((unhide QV).keep hb4)
  replace B := hide (bTr (unhide B) hb4)
  replace OW1 := hide (own_keep (unhide OW1) hb4)
  clear hb4 m4 t4 lo0 v0 v1 v2
  obtain ⟨lo, hlo⟩ : ∃ lo, lo = w3.heap.size := ⟨_, rfl⟩
  obtain ⟨hi, hhi⟩ : ∃ hi, hi = w4.heap.size := ⟨_, rfl⟩
  rw [← hlo, ← hhi] at SH LH
  rw [← hlo] at g0 wl
  have Z := hide (show hi ≤ w4.heap.size from Nat.le_of_eq hhi)
  obtain ⟨W5, hW5⟩ : ∃ W, W = w4.alloc (.cells #[.slice e4.h0.a e4.h0.len e4.h0.cap, .slice e4.h1.a e4.h1.len e4.h1.cap, .slice e4.h2.a e4.h2.len e4.h2.cap] 32) := ⟨_, rfl⟩
  have HW5 := hide hW5.symm
  have b45 : Below w4.heap.size w4 W5 := by rw [hW5]; exact bAl (Below.refl _ _) _
  have QX := hide (show V.RowIs W5 w4.heap.size #[.slice e4.h0.a e4.h0.len e4.h0.cap, .slice e4.h1.a e4.h1.len e4.h1.cap, .slice e4.h2.a e4.h2.len e4.h2.cap] 32 by rw [hW5]; exact V.RowIs.new w4 _ _)
  have bx0 : Hid (hi ≤ w4.heap.size) := Z
  clear hlo hhi
  replace QV := hide ((unhide QV).keep b45)
  replace OW1 := hide (own_keep (unhide OW1) b45)
  replace S4 := hide ((unhide S4).keep b45)
  replace SH := hide (And.intro ((unhide SH).1.mv (Mk.below (Nat.le_trans (unhide LH) (unhide Z)) b45)) (And.intro ((unhide SH).2.1.mv (Mk.below (Nat.le_trans (unhide LH) (unhide Z)) b45)) ((unhide SH).2.2.mv (Mk.below (Nat.le_trans (unhide LH) (unhide Z)) b45))))
  replace Z := hide (Nat.le_trans (unhide Z) b45.size)
  replace B := hide (bTr (unhide B) b45)
  clear hW5 b45
  have hi5 := hide (unhide qI e4 W5 (unhide T4) (unhide S4))
  go_wp2_with fail
  rw [unhide HW5]
  refine (unhide hi5).mono ?_
  rintro r w6 ⟨⟨u2, r2, rfl, an2, ow2⟩, hb6⟩
  obtain rfl := (unhide AN1).uniq an2
  have OW2 := hide ow2
  have g2 : Hid (∀ g, u2.ownBlock = some g → hi ≤ g ∧ W5.heap.size ≤ g) := hide (fun g e => ⟨Nat.le_trans (unhide Z) (ow2.lt g e).1, (ow2.lt g e).1⟩)
  have bx : Hid (w4.heap.size < W5.heap.size) := hide (unhide QX).lt
  replace QV := hide ((unhide QV).keep hb6)
  replace QX := hide ((unhide QX).keep hb6)
  replace OW1 := hide (own_keep (unhide OW1) hb6)
  replace S4 := hide ((unhide S4).keep hb6)
  replace SH := hide (And.intro ((unhide SH).1.mv (Mk.below (Nat.le_trans (unhide LH) (unhide Z)) hb6)) (And.intro ((unhide SH).2.1.mv (Mk.below (Nat.le_trans (unhide LH) (unhide Z)) hb6)) ((unhide SH).2.2.mv (Mk.below (Nat.le_trans (unhide LH) (unhide Z)) hb6))))
  replace Z := hide (Nat.le_trans (unhide Z) hb6.size)
  replace B := hide (bTr (unhide B) hb6)
  clear hb6 hi5 an2 ow2 HW5
  obtain ⟨a2, c2, e2', s2⟩ := own_strs (unhide OW2)
  subst e2'
  clear s2
  have HML : Hid (r1.length ≤ maxLen) := hide (by unfold maxLen; omega)
  have q3 := hide (V.eqStringS_n ⟨a2, r1.length, c2⟩ ⟨a1, r1.length, c1⟩ r1 w6 (unhide HML) (V.SqS.of (V.sls_back (own_str9 (unhide OW2)))) (V.SqS.of (V.sls_back (own_str9 (unhide OW1)))))
  go_wp2_with fail
  refine (unhide q3).mono ?_
  rintro r w8 ⟨rfl, hb8⟩
  replace QV := hide ((unhide QV).keep hb8)
  replace QX := hide ((unhide QX).keep hb8)
  replace OW1 := hide (own_keep (unhide OW1) hb8)
  replace OW2 := hide (own_keep (unhide OW2) hb8)
  replace S4 := hide ((unhide S4).keep hb8)
  replace SH := hide (And.intro ((unhide SH).1.mv (Mk.below (Nat.le_trans (unhide LH) (unhide Z)) hb8)) (And.intro ((unhide SH).2.1.mv (Mk.below (Nat.le_trans (unhide LH) (unhide Z)) hb8)) ((unhide SH).2.2.mv (Mk.below (Nat.le_trans (unhide LH) (unhide Z)) hb8))))
  replace Z := hide (Nat.le_trans (unhide Z) hb8.size)
  replace B := hide (bTr (unhide B) hb8)
  clear hb8 q3
  obtain ⟨bq, hbq⟩ : ∃ n, n = w4.heap.size := ⟨_, rfl⟩
  rw [← hbq] at QX bx bx0 ⊢
  clear hbq
  have Y := hide (And.intro (And.intro ((unhide QX).at (o := 0) (v := .slice e4.h0.a e4.h0.len e4.h0.cap) rfl) (And.intro ((unhide QX).at (o := 1) (v := .slice e4.h1.a e4.h1.len e4.h1.cap) rfl) ((unhide QX).at (o := 2) (v := .slice e4.h2.a e4.h2.len e4.h2.cap) rfl))) (And.intro ((unhide QV).at (o := 0) (v := .slice e.h0.a e.h0.len e.h0.cap) rfl) (And.intro ((unhide QV).at (o := 1) (v := .slice e.h1.a e.h1.len e.h1.cap) rfl) ((unhide QV).at (o := 2) (v := .slice e.h2.a e.h2.len e.h2.cap) rfl))))
  go_wp2_with fail
  go_region_held3 (fun w' => (w'.cell? ⟨bq, 0, none⟩ = some (.slice e4.h0.a e4.h0.len e4.h0.cap) ∧ w'.cell? ⟨bq, 1, none⟩ = some (.slice e4.h1.a e4.h1.len e4.h1.cap) ∧ w'.cell? ⟨bq, 2, none⟩ = some (.slice e4.h2.a e4.h2.len e4.h2.cap)) ∧ (w'.cell? ⟨w.heap.size, 0, none⟩ = some (.slice e.h0.a e.h0.len e.h0.cap) ∧ w'.cell? ⟨w.heap.size, 1, none⟩ = some (.slice e.h1.a e.h1.len e.h1.cap) ∧ w'.cell? ⟨w.heap.size, 2, none⟩ = some (.slice e.h2.a e.h2.len e.h2.cap)))
    (first | exact unhide Y | exact unhide Ya | exact unhide Yb)
    (first
      | (go_at_call 6; refine (unhide QT _ ((unhide HM).keep (unhide B).drew)).mono ?_; rintro r wa ⟨⟨e7, t7, rfl, m7⟩, hb7⟩; replace hb7 := undrew hb7; have QXa := hide ((unhide QX).keep hb7); have QVa := hide ((unhide QV).keep hb7); have Ya := hide (And.intro (And.intro ((unhide QXa).at (o := 0) (v := .slice e4.h0.a e4.h0.len e4.h0.cap) rfl) (And.intro ((unhide QXa).at (o := 1) (v := .slice e4.h1.a e4.h1.len e4.h1.cap) rfl) ((unhide QXa).at (o := 2) (v := .slice e4.h2.a e4.h2.len e4.h2.cap) rfl))) (And.intro ((unhide QVa).at (o := 0) (v := .slice e.h0.a e.h0.len e.h0.cap) rfl) (And.intro ((unhide QVa).at (o := 1) (v := .slice e.h1.a e.h1.len e.h1.cap) rfl) ((unhide QVa).at (o := 2) (v := .slice e.h2.a e.h2.len e.h2.cap) rfl)))); have HB7 := hide hb7; have q9 := hide (V.eqRoleSet_n e4 e7 wa (by rw [t7, unhide T4]) (by rw [unhide T4]; exact unhide HN) ((unhide S4).keep hb7) (m7.lo (Nat.zero_le _))); clear hb7 m7 t7)
      | (go_at_call 9; refine (unhide q9).mono ?_; rintro r wb ⟨rfl, hb9⟩; have QXb := hide ((unhide QXa).keep hb9); have QVb := hide ((unhide QVa).keep hb9); have Yb := hide (And.intro (And.intro ((unhide QXb).at (o := 0) (v := .slice e4.h0.a e4.h0.len e4.h0.cap) rfl) (And.intro ((unhide QXb).at (o := 1) (v := .slice e4.h1.a e4.h1.len e4.h1.cap) rfl) ((unhide QXb).at (o := 2) (v := .slice e4.h2.a e4.h2.len e4.h2.cap) rfl))) (And.intro ((unhide QVb).at (o := 0) (v := .slice e.h0.a e.h0.len e.h0.cap) rfl) (And.intro ((unhide QVb).at (o := 1) (v := .slice e.h1.a e.h1.len e.h1.cap) rfl) ((unhide QVb).at (o := 2) (v := .slice e.h2.a e.h2.len e.h2.cap) rfl)))); have HB9 := hide (bTr (unhide HB7) hb9); clear hb9))
  iterate 14 (try clear hHeld)
  have hb10 := unhide HB9
  replace QV := hide ((unhide QV).keep hb10)
  replace QX := hide ((unhide QX).keep hb10)
  replace OW1 := hide (own_keep (unhide OW1) hb10)
  replace OW2 := hide (own_keep (unhide OW2) hb10)
  replace SH := hide (And.intro ((unhide SH).1.mv (Mk.below (Nat.le_trans (unhide LH) (unhide Z)) hb10)) (And.intro ((unhide SH).2.1.mv (Mk.below (Nat.le_trans (unhide LH) (unhide Z)) hb10)) ((unhide SH).2.2.mv (Mk.below (Nat.le_trans (unhide LH) (unhide Z)) hb10))))
  replace Z := hide (Nat.le_trans (unhide Z) hb10.size)
  replace B := hide (bTr (unhide B) hb10)
  clear hb10 HB9 HB7 q9 QXa QXb QVa QVb Y Ya Yb S4
  have q4 := hide (markRS_w lo hi e4.h0 e4.h1 e4.h2 wb (unhide LH) (unhide Z) (unhide L4).1 (unhide L4).2.1 (unhide L4).2.2 (unhide SH).1 (unhide SH).2.1 (unhide SH).2.2)
  have x0 := (unhide QX).at (o := 0) (v := .slice e4.h0.a e4.h0.len e4.h0.cap) rfl
  have x1 := (unhide QX).at (o := 1) (v := .slice e4.h1.a e4.h1.len e4.h1.cap) rfl
  have x2 := (unhide QX).at (o := 2) (v := .slice e4.h2.a e4.h2.len e4.h2.cap) rfl
  go_wp2_with fail
  refine (unhide q4).mono ?_
  rintro r w11 ⟨⟨K, rfl, k1⟩, mk⟩
  have zk : decide ((K : Int) < 0) = false := decide_eq_false (by omega)
  replace OW1 := hide (own_mk (unhide OW1) mk (fun g e => .inl (unhide g0 g e)))
  replace OW2 := hide (own_mk (unhide OW2) mk (fun g e => .inr (unhide g2 g e).1))
  have hbm : Below w.heap.size w w11 := (unhide B).trans (mk.b.mono (Nat.le_of_lt (unhide wl)))
  have raw : Hid (V.RowIs w11 w.heap.size #[.slice e.h0.a e.h0.len e.h0.cap, .slice e.h1.a e.h1.len e.h1.cap, .slice e.h2.a e.h2.len e.h2.cap] 26) := hide (by
    have h1 := unhide QV
    unfold V.RowIs at h1 ⊢
    rw [mk.b.block w.heap.size (unhide wl)]; exact h1)
  replace QV := raw
  replace B := hide hbm
  clear mk q4 hbm raw SH QX x0 x1 x2
  have q3 := hide (V.eqStringS_n ⟨a2, r1.length, c2⟩ ⟨a1, r1.length, c1⟩ r1 w11 (unhide HML) (V.SqS.of (V.sls_back (own_str9 (unhide OW2)))) (V.SqS.of (V.sls_back (own_str9 (unhide OW1)))))
  go_wp2_with fail
  refine (unhide q3).mono ?_
  rintro r w12 ⟨rfl, hb12⟩
  replace QV := hide ((unhide QV).keep hb12)
  replace OW1 := hide (own_keep (unhide OW1) hb12)
  replace OW2 := hide (own_keep (unhide OW2) hb12)
  replace B := hide (bTr (unhide B) hb12)
  clear hb12 q3 zk k1
  have q5 := hide (V.markStr_own _ r1.length 1 (r1.map Value.string) _ w12 (by omega) (by omega) (by omega) (unhide OW2))
  have z0 : decide (((1 + r1.length : Nat) : Int) < 0) = false := decide_eq_false (by omega)
  have z1 : ¬ ((1 + r1.length : Nat) : Int) < 0 := by omega
  have qh := hide (fun w h => V.heldStr_own (.slice a2 r1.length c2) r1.length 1 w (by omega) (by omega) (by omega) h)
  obtain ⟨Q, hQ⟩ : ∃ Q : Nat, 1 + r1.length = Q := ⟨_, rfl⟩
  rw [hQ] at q5 z0 z1 qh
  clear hQ
  go_wp2_with fail
  refine (unhide q5).mono ?_
  rintro r w13 ⟨rfl, mk13, hg⟩
  have MM := hide mk13
  replace QV := hide (V.row_grownO (unhide QV) hg (fun e => by have h1 := (unhide g2 _ e.symm).1; have h2 := unhide wl; have h3 := unhide LH; omega))
  replace OW1 := hide ((unhide OW1).kept hg (by
    cases hq : (Value.slice a1 r1.length c1).ownBlock with
    | none => exact .inl rfl
    | some g => exact .inr (fun e => by have h1 := (unhide g2 g e.symm).1; have h2 := unhide g0 g hq; have h3 := unhide LH; omega)))
  replace B := hide ((unhide B).grown hg (unhide B).size (fun j h => by have h1 := (unhide g2 j h).1; have h2 := unhide wl; have h3 := unhide LH; omega))
  clear hg mk13 q5 OW2
  go_wp2_with fail
  refine (unhide qh _ (unhide MM)).mono ?_
  rintro r w14 ⟨rfl, hb14⟩
  replace QV := hide ((unhide QV).keep hb14)
  replace OW1 := hide (own_keep (unhide OW1) hb14)
  replace B := hide (bTr (unhide B) hb14)
  replace MM := hide ((unhide MM).keep hb14)
  clear hb14
  have v0 := (unhide QV).at (o := 0) (v := .slice e.h0.a e.h0.len e.h0.cap) rfl
  have v1 := (unhide QV).at (o := 1) (v := .slice e.h1.a e.h1.len e.h1.cap) rfl
  have v2 := (unhide QV).at (o := 2) (v := .slice e.h2.a e.h2.len e.h2.cap) rfl
  go_wp2_with fail
  refine (unhide QT _ ((unhide HM).keep (unhide B))).mono ?_
  rintro r w15 ⟨⟨e9, t9, rfl, m9⟩, hb15⟩
  have hi9 := hide (unhide qI e9 w15 t9 (m9.lo (Nat.zero_le _)))
  replace QV := hide ((unhide QV).keep hb15)
  replace OW1 := hide (own_keep (unhide OW1) hb15)
  replace B := hide (bTr (unhide B) hb15)
  replace MM := hide ((unhide MM).keep hb15)
  clear hb15 m9 t9 v0 v1 v2
  go_wp2_with fail
  refine (unhide hi9).mono ?_
  rintro r w16 ⟨⟨u3, r3, rfl, an3, ow3⟩, hb16⟩
  obtain rfl := (unhide AN1).uniq an3
  have OW3 := hide ow3
  replace QV := hide ((unhide QV).keep hb16)
  replace OW1 := hide (own_keep (unhide OW1) hb16)
  replace B := hide (bTr (unhide B) hb16)
  replace MM := hide ((unhide MM).keep hb16)
  clear hb16 hi9 an3 ow3
  obtain ⟨a3, c3, e3, s3⟩ := own_strs (unhide OW3)
  subst e3
  clear s3
  have q3 := hide (V.eqStringS_n ⟨a3, r1.length, c3⟩ ⟨a1, r1.length, c1⟩ r1 w16 (unhide HML) (V.SqS.of (V.sls_back (own_str9 (unhide OW3)))) (V.SqS.of (V.sls_back (own_str9 (unhide OW1)))))
  go_wp2_with fail
  refine (unhide q3).mono ?_
  rintro r w17 ⟨rfl, hb17⟩
  replace B := hide (bTr (unhide B) hb17)
  replace MM := hide ((unhide MM).keep hb17)
  clear hb17 q3
  go_wp2_with fail
  refine (unhide qh _ (unhide MM)).mono ?_
  rintro r w18 ⟨rfl, hb18⟩
  replace B := hide (bTr (unhide B) hb18)
  clear hb18
  go_wp2_with fail
  go_ret
  exact ⟨rfl, unhide B⟩

set_option maxRecDepth 100000 in
theorem lifted (os : Os) (started : os.Started) (H : Type) (enc : TypeId × Value → H) :
    ReturnsInHanded {} Tryz.checked os 3 .any (Rows.fnExactJuniorsOfSpec.pre6 enc Tryz.prog Tryz.f3 Rows.fnExactJuniorsOfRow.domain false) (Rows.fnExactJuniorsOfSpec.post enc Tryz.prog Tryz.f3 false true false false) := by
  refine returnsInHanded_of_change (C := Tryz.checked) own started (by kernel_rfl) Tryz.func3
    (ChangeSpec.witness6 (enc := enc) (C := Tryz.checked) false ⟨#[], #[.agg #[.slice none 0 0, .slice none 0 0, .slice none 0 0], .string ByteArray.empty], []⟩ 8 (by kernel_rfl) (by kernel_rfl) (by kernel_rfl) (by kernel_rfl)) ?_
  intro W base args ds gs before hval0 hW hcnd _
  have hval : ∀ (j : Nat) t v, Tryz.f3.params[j]? = some t → args[j]? = some v → Value.okWide Tryz.prog W .any base t v := hval0
  have hW' := hW
  obtain ⟨p, q, hA0, hV, rfl, hfz, hnd⟩ := hW
  have hA : DataW.TrodAll enc Tryz.prog W 0 (fun _ => true) true Tryz.f3.params.toList args.toList ds p := hA0
  rw [Tryz.params3] at hA hval
  obtain ⟨v0, vs0, d0, ds0, p0, q0, hargs, rfl, rfl, h0, r0⟩ := trodAll_cons hA
  obtain ⟨v1, vs1, d1, ds1, p1, q1, rfl, rfl, rfl, h1, r1⟩ := trodAll_cons r0
  obtain ⟨rfl, rfl, rfl⟩ := trodAll_nil r1
  obtain rfl : args = #[v0, v1] := by cases args; simp_all
  obtain ⟨rfl, rfl⟩ := trodVars_none hV
  have k0 := h0
  have lt0 : ∀ x ∈ p0, x.block < W.heap.size := by obtain ⟨m, hm⟩ := k0; exact DataW.trod_lt m _ _ _ hm
  obtain ⟨g0, e0, o0, s0⟩ := V.came_RoleSet (hval 0 26 v0 rfl rfl) h0
  subst e0
  obtain ⟨a1, rfl, rfl, rfl, w1⟩ := open_string Tryz.underlying9 (hval 1 9 v1 rfl rfl) h1
  clear hA0 hval0
  refine (walk g0 a1 W o0 s0 w1).mono fun e W' ⟨he, bel⟩ => ?_
  subst he
  exact ⟨_, rfl, _, _, _, [], _, [], hW', trodAll_mk1 (shut_bool Tryz.underlying4 _), (trodAll_cons_mk (Below.trod laidOut (by kernel_rfl) (of_decide_eq_true (by kernel_rfl)) k0 bel lt0) (trodAll_cons_mk (shut_string Tryz.underlying9 w1) trodAll_mk0)), rfl, bel.frame _, fun h => by cases h⟩

theorem over : Rows.fnExactJuniorsOfRow.holds Tryz.pinned (OpenSpec.ofChange Rows.fnExactJuniorsOfSpec) :=
  OpenClaim.holds_of_wide 3 Tryz.f3 rfl rfl rfl rfl rfl rfl rfl ⟨rfl, rfl, rfl, rfl, rfl⟩ rfl rfl rfl rfl rfl (by kernel_rfl) Tryz.func3 (by kernel_rfl)
    (of_decide_eq_true (by kernel_rfl)) (by unfold Func.isWrapper; rw [if_neg (by decide +kernel)]; exact ⟨rfl, rfl⟩)
    (fun os started H enc _ => lifted os started H enc)
end Go.Proofs.YtfabfgokammmhaaGreat.fnExactJuniorsOf
namespace Go.Proofs.YtfabfgokammmhaaGreat
theorem fnExactJuniorsOf_holds : Rows.FnExactJuniorsOfSaid := fnExactJuniorsOf.over
end Go.Proofs.YtfabfgokammmhaaGreat

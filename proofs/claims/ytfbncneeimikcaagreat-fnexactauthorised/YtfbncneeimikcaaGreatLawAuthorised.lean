/- LawAuthorised, one behind the other. -/
import Derived.Test.YtfbncneeimikcaaGreatRows
import Derived.Test.YtfbncneeimikcaaGreatJ35
import Derived.Test.YtfbncneeimikcaaGreatOMs
import Derived.Test.YtfbncneeimikcaaGreatJ24
import Derived.WalkKit
import Derived.ProofKit
import Derived.OpenShut
import Derived.ShutString
import Derived.ChangeOld
import Derived.Below
import Derived.Lib.SmallJoins
import Derived.Deep.RegionHeld3
/- The row of laws.FnExactAuthorised: its walk, then the row's step. -/
namespace Go.Proofs.YtfbncneeimikcaaGreat.fnExactAuthorised
open Go.ChangeShapes Go.WideShapes Go.ChangeAt Go.RowKit Go.Joins
open Go.ChangeMaps (open_string shut_string)
set_option linter.unusedVariables false

theorem own : ownKnob Tryz.prog.godebug = none := by kernel_rfl
theorem laidOut : laidOutB Tryz.prog = true := by kernel_rfl

theorem own_str9 {w : World} {base cap : Nat} {a : Option Addr} {l : List ByteArray} (h : w.ownsRow base 9 1 (.slice a l.length cap) l.length (l.map Value.string)) : SlS w a l.length l := by
  obtain ⟨a', c', e, s⟩ := own_strs h
  cases e
  exact s
open V in
set_option maxRecDepth 40000 in
set_option maxHeartbeats 16000000 in
theorem walk (e : V.RoleSetE) (x : V.RoleStateE) (u : ByteArray) (t : Int) (w : World) (hn : V.RoleSetN e.t) (hm : V.RoleSetM w 0 e) (hxn : V.RoleStateN x.t) (hxm : V.RoleStateM w 0 x) (hu : u.size ≤ maxLen) :
    Calls Tryz.prog 3 #[.agg #[.slice e.h0.a e.h0.len e.h0.cap, .slice e.h1.a e.h1.len e.h1.cap, .slice e.h2.a e.h2.len e.h2.cap], .agg #[.slice x.h0.a x.h0.len x.h0.cap, .slice x.h1.a x.h1.len x.h1.cap, .slice x.h2.a x.h2.len x.h2.cap, .int .i64 x.t.f3], .string u, .int .i64 t] w fun r w' => r = .returned (.bool true) ∧ Below w.heap.size w w' := by
  have qz := hide (fun q w h0 h1 hm => V.szRoleSet_n e q w h0 h1 hn hm)
  have qy := hide (fun q w h0 h1 hm => V.szRoleState_n x q w h0 h1 hxn hm)
  have qt := hide (fun w hs hm => V.toRoleSet_n e w hs hm)
  have qu := hide (fun w hs hm => V.toRoleState_n x w hs hm)
  have HN := hide hn
  have HM := hide hm
  have HXN := hide hxn
  have HXM := hide hxm
  have QV := hide ((V.RowIs.new w #[.slice e.h0.a e.h0.len e.h0.cap, .slice e.h1.a e.h1.len e.h1.cap, .slice e.h2.a e.h2.len e.h2.cap] 26).keep (bAl (Below.refl _ _) (.cells #[.slice x.h0.a x.h0.len x.h0.cap, .slice x.h1.a x.h1.len x.h1.cap, .slice x.h2.a x.h2.len x.h2.cap, .int .i64 x.t.f3] 31)))
  have QU := hide (show V.RowIs ((w.alloc (.cells #[.slice e.h0.a e.h0.len e.h0.cap, .slice e.h1.a e.h1.len e.h1.cap, .slice e.h2.a e.h2.len e.h2.cap] 26)).alloc (.cells #[.slice x.h0.a x.h0.len x.h0.cap, .slice x.h1.a x.h1.len x.h1.cap, .slice x.h2.a x.h2.len x.h2.cap, .int .i64 x.t.f3] 31)) (w.heap.size + 1) #[.slice x.h0.a x.h0.len x.h0.cap, .slice x.h1.a x.h1.len x.h1.cap, .slice x.h2.a x.h2.len x.h2.cap, .int .i64 x.t.f3] 31 by have := V.RowIs.new (w.alloc (.cells #[.slice e.h0.a e.h0.len e.h0.cap, .slice e.h1.a e.h1.len e.h1.cap, .slice e.h2.a e.h2.len e.h2.cap] 26)) #[.slice x.h0.a x.h0.len x.h0.cap, .slice x.h1.a x.h1.len x.h1.cap, .slice x.h2.a x.h2.len x.h2.cap, .int .i64 x.t.f3] 31; simpa using this)
  have B := hide (bAl (bAl (Below.refl w.heap.size w) (.cells #[.slice e.h0.a e.h0.len e.h0.cap, .slice e.h1.a e.h1.len e.h1.cap, .slice e.h2.a e.h2.len e.h2.cap] 26)) (.cells #[.slice x.h0.a x.h0.len x.h0.cap, .slice x.h1.a x.h1.len x.h1.cap, .slice x.h2.a x.h2.len x.h2.cap, .int .i64 x.t.f3] 31))
  have qS : Hid (∀ (e2 : V.RoleSetE) (x2 : V.RoleStateE) (w2 : World), e2.t = e.t → x2.t = x.t → V.RoleStateSm x.t → V.RoleSetM w2 0 e2 → V.RoleStateM w2 0 x2 → Calls Tryz.prog 6 #[.agg #[.slice e2.h0.a e2.h0.len e2.h0.cap, .slice e2.h1.a e2.h1.len e2.h1.cap, .slice e2.h2.a e2.h2.len e2.h2.cap], .agg #[.slice x2.h0.a x2.h0.len x2.h0.cap, .slice x2.h1.a x2.h1.len x2.h1.cap, .slice x2.h2.a x2.h2.len x2.h2.cap, .int .i64 x2.t.f3], .string u, .int .i64 t] w2 fun r w' => (∃ v rr, r = .returned v ∧ V.AuIs e.t x.t u t rr ∧ w'.ownsRow w2.heap.size 9 1 v rr.length (rr.map Value.string)) ∧ Below w2.heap.size w2 w') := hide (fun e2 x2 w2 t2 s2 sm m2 n2 => (V.sAuthorised_n e2 x2 u t w2 (by rw [t2]; exact hn) m2 (by rw [s2]; exact hxn) (by rw [s2]; exact sm) n2).mono fun _ _ h => by rw [t2, s2] at h; exact h)
  have qI : Hid (∀ (e2 : V.RoleSetE) (x2 : V.RoleStateE) (w2 : World), e2.t = e.t → x2.t = x.t → V.RoleStateSm x.t → V.RoleSetM w2 0 e2 → V.RoleStateM w2 0 x2 → Calls Tryz.prog 9 #[.agg #[.slice e2.h0.a e2.h0.len e2.h0.cap, .slice e2.h1.a e2.h1.len e2.h1.cap, .slice e2.h2.a e2.h2.len e2.h2.cap], .agg #[.slice x2.h0.a x2.h0.len x2.h0.cap, .slice x2.h1.a x2.h1.len x2.h1.cap, .slice x2.h2.a x2.h2.len x2.h2.cap, .int .i64 x2.t.f3], .string u, .int .i64 t] w2 fun r w' => (∃ v rr, r = .returned v ∧ V.AuIs e.t x.t u t rr ∧ w'.ownsRow w2.heap.size 9 1 v rr.length (rr.map Value.string)) ∧ Below w2.heap.size w2 w') := hide (fun e2 x2 w2 t2 s2 sm m2 n2 => (V.iAuthorised_n e2 x2 u t w2 hu (by rw [t2]; exact hn) m2 (by rw [s2]; exact hxn) (by rw [s2]; exact sm) n2).mono fun _ _ h => by rw [t2, s2] at h; exact h)
  clear hn hm hxn hxm
  unfold maxLen at hu
  go_enter Tryz.func3, Tryz.ntmps3
  by_cases hbig : 1048576 < u.size
  · have d : decide ((1048576 : Int) < (u.size : Int)) = true := decide_eq_true (by omega)
    go_wp2_with fail
    go_ret
    exact ⟨rfl, unhide B⟩
  have d : decide ((1048576 : Int) < (u.size : Int)) = false := by simp; omega
  have v0 := (unhide QV).at (o := 0) (v := .slice e.h0.a e.h0.len e.h0.cap) rfl
  have v1 := (unhide QV).at (o := 1) (v := .slice e.h1.a e.h1.len e.h1.cap) rfl
  have v2 := (unhide QV).at (o := 2) (v := .slice e.h2.a e.h2.len e.h2.cap) rfl
  have y0 := (unhide QU).at (o := 0) (v := .slice x.h0.a x.h0.len x.h0.cap) rfl
  have y1 := (unhide QU).at (o := 1) (v := .slice x.h1.a x.h1.len x.h1.cap) rfl
  have y2 := (unhide QU).at (o := 2) (v := .slice x.h2.a x.h2.len x.h2.cap) rfl
  have y3 := (unhide QU).at (o := 3) (v := .int .i64 x.t.f3) rfl
  go_wp2_with fail
  refine (unhide qz _ _ (by omega) (by omega) ((unhide HM).keep (unhide B))).mono ?_
  rintro r w1 ⟨⟨m, hm1, hm2, hm3, rfl⟩, hb1⟩
  replace QV := hide ((unhide QV).keep hb1)
  replace QU := hide ((unhide QU).keep hb1)
  replace B := hide (bTr (unhide B) hb1)
  clear hb1 qz
  clear v0 v1 v2 y0 y1 y2 y3
  by_cases hlt : m < 0
  · go_wp2_with fail
    go_ret
    exact ⟨rfl, unhide B⟩
  have SM := hide (hm3 (by omega))
  have QT := hide (fun w hm => unhide qt w (unhide SM) hm)
  clear qt hm3
  have v0 := (unhide QV).at (o := 0) (v := .slice e.h0.a e.h0.len e.h0.cap) rfl
  have v1 := (unhide QV).at (o := 1) (v := .slice e.h1.a e.h1.len e.h1.cap) rfl
  have v2 := (unhide QV).at (o := 2) (v := .slice e.h2.a e.h2.len e.h2.cap) rfl
  have y0 := (unhide QU).at (o := 0) (v := .slice x.h0.a x.h0.len x.h0.cap) rfl
  have y1 := (unhide QU).at (o := 1) (v := .slice x.h1.a x.h1.len x.h1.cap) rfl
  have y2 := (unhide QU).at (o := 2) (v := .slice x.h2.a x.h2.len x.h2.cap) rfl
  have y3 := (unhide QU).at (o := 3) (v := .int .i64 x.t.f3) rfl
  go_wp2_with fail
  refine (unhide qy _ _ (by omega) (by omega) ((unhide HXM).keep (unhide B))).mono ?_
  rintro r w2 ⟨⟨m', hm1', hm2', hm3', rfl⟩, hb2⟩
  replace QV := hide ((unhide QV).keep hb2)
  replace QU := hide ((unhide QU).keep hb2)
  replace B := hide (bTr (unhide B) hb2)
  clear hb2 qy
  clear v0 v1 v2 y0 y1 y2 y3
  by_cases hlt' : m' < 0
  · go_wp2_with fail
    go_ret
    exact ⟨rfl, unhide B⟩
  have SMx := hide (hm3' (by omega))
  have QW := hide (fun w hm => unhide qu w (unhide SMx) hm)
  clear qu hm3'
  have Y := hide (And.intro (And.intro ((unhide QV).at (o := 0) (v := .slice e.h0.a e.h0.len e.h0.cap) rfl) (And.intro ((unhide QV).at (o := 1) (v := .slice e.h1.a e.h1.len e.h1.cap) rfl) ((unhide QV).at (o := 2) (v := .slice e.h2.a e.h2.len e.h2.cap) rfl))) (And.intro ((unhide QU).at (o := 0) (v := .slice x.h0.a x.h0.len x.h0.cap) rfl) (And.intro ((unhide QU).at (o := 1) (v := .slice x.h1.a x.h1.len x.h1.cap) rfl) (And.intro ((unhide QU).at (o := 2) (v := .slice x.h2.a x.h2.len x.h2.cap) rfl) ((unhide QU).at (o := 3) (v := .int .i64 x.t.f3) rfl)))))
  go_wp2_with fail
  go_region_held3 (fun w' => (w'.cell? ⟨w.heap.size, 0, none⟩ = some (.slice e.h0.a e.h0.len e.h0.cap) ∧ w'.cell? ⟨w.heap.size, 1, none⟩ = some (.slice e.h1.a e.h1.len e.h1.cap) ∧ w'.cell? ⟨w.heap.size, 2, none⟩ = some (.slice e.h2.a e.h2.len e.h2.cap)) ∧ (w'.cell? ⟨w.heap.size + 1, 0, none⟩ = some (.slice x.h0.a x.h0.len x.h0.cap) ∧ w'.cell? ⟨w.heap.size + 1, 1, none⟩ = some (.slice x.h1.a x.h1.len x.h1.cap) ∧ w'.cell? ⟨w.heap.size + 1, 2, none⟩ = some (.slice x.h2.a x.h2.len x.h2.cap) ∧ w'.cell? ⟨w.heap.size + 1, 3, none⟩ = some (.int .i64 x.t.f3)))
    (first | exact unhide Y | exact unhide Ya | exact unhide Yb | exact unhide Yc)
    (first
      | (go_at_call 7; refine (unhide QT _ ((unhide HM).keep (unhide B).drew)).mono ?_; rintro r wa ⟨⟨e2, t2, rfl, m2⟩, hb7⟩; replace hb7 := undrew hb7; have QVa := hide ((unhide QV).keep hb7); have QUa := hide ((unhide QU).keep hb7); have Ba := hide (bTr (unhide B) hb7); have Ya := hide (And.intro (And.intro ((unhide QVa).at (o := 0) (v := .slice e.h0.a e.h0.len e.h0.cap) rfl) (And.intro ((unhide QVa).at (o := 1) (v := .slice e.h1.a e.h1.len e.h1.cap) rfl) ((unhide QVa).at (o := 2) (v := .slice e.h2.a e.h2.len e.h2.cap) rfl))) (And.intro ((unhide QUa).at (o := 0) (v := .slice x.h0.a x.h0.len x.h0.cap) rfl) (And.intro ((unhide QUa).at (o := 1) (v := .slice x.h1.a x.h1.len x.h1.cap) rfl) (And.intro ((unhide QUa).at (o := 2) (v := .slice x.h2.a x.h2.len x.h2.cap) rfl) ((unhide QUa).at (o := 3) (v := .int .i64 x.t.f3) rfl))))); have M2 := hide (m2.lo (Nat.zero_le _)); have T2 := hide t2; clear hb7 m2 t2)
      | (go_at_call 8; refine (unhide QW _ ((unhide HXM).keep (unhide Ba))).mono ?_; rintro r wb ⟨⟨x2, s2, rfl, n2⟩, hb8⟩; have QVb := hide ((unhide QVa).keep hb8); have QUb := hide ((unhide QUa).keep hb8); have Bb := hide (bTr (unhide Ba) hb8); have Yb := hide (And.intro (And.intro ((unhide QVb).at (o := 0) (v := .slice e.h0.a e.h0.len e.h0.cap) rfl) (And.intro ((unhide QVb).at (o := 1) (v := .slice e.h1.a e.h1.len e.h1.cap) rfl) ((unhide QVb).at (o := 2) (v := .slice e.h2.a e.h2.len e.h2.cap) rfl))) (And.intro ((unhide QUb).at (o := 0) (v := .slice x.h0.a x.h0.len x.h0.cap) rfl) (And.intro ((unhide QUb).at (o := 1) (v := .slice x.h1.a x.h1.len x.h1.cap) rfl) (And.intro ((unhide QUb).at (o := 2) (v := .slice x.h2.a x.h2.len x.h2.cap) rfl) ((unhide QUb).at (o := 3) (v := .int .i64 x.t.f3) rfl))))); have hs2 := hide (unhide qS e2 x2 wb (unhide T2) s2 (unhide SMx) ((unhide M2).keep hb8) (n2.lo (Nat.zero_le _))); clear hb8 s2 n2)
      | (go_at_call 6; refine (unhide hs2).mono ?_; rintro r w3 ⟨⟨u1, r1, rfl, an1, ow1⟩, hb3⟩; have QVc := hide ((unhide QVb).keep hb3); have QUc := hide ((unhide QUb).keep hb3); have Bc := hide (bTr (unhide Bb) hb3); have Yc := hide (And.intro (And.intro ((unhide QVc).at (o := 0) (v := .slice e.h0.a e.h0.len e.h0.cap) rfl) (And.intro ((unhide QVc).at (o := 1) (v := .slice e.h1.a e.h1.len e.h1.cap) rfl) ((unhide QVc).at (o := 2) (v := .slice e.h2.a e.h2.len e.h2.cap) rfl))) (And.intro ((unhide QUc).at (o := 0) (v := .slice x.h0.a x.h0.len x.h0.cap) rfl) (And.intro ((unhide QUc).at (o := 1) (v := .slice x.h1.a x.h1.len x.h1.cap) rfl) (And.intro ((unhide QUc).at (o := 2) (v := .slice x.h2.a x.h2.len x.h2.cap) rfl) ((unhide QUc).at (o := 3) (v := .int .i64 x.t.f3) rfl))))); have AN1 := hide an1; have OW1 := hide ow1; clear hb3 an1 ow1))
  iterate 14 (try clear hHeld)
  have QV3 := QVc
  have QU3 := QUc
  have B3 := Bc
  clear Y Ya Yb Yc QVa QUa QVb QUb QVc QUc Ba Bb Bc QV QU B M2 T2 hs2 qS
  have QV := QV3
  have QU := QU3
  have B := B3
  clear QV3 QU3 B3
  obtain ⟨a1, c1, e1, s1⟩ := own_strs (unhide OW1)
  subst e1
  clear s1
  have LR := (unhide AN1).len
  have lo0 : Hid (0 < w3.heap.size) := hide (Nat.lt_of_le_of_lt (Nat.zero_le _) (unhide QV).lt)
  have g0 : Hid (∀ g, (Value.slice a1 r1.length c1).ownBlock = some g → g < w3.heap.size) := hide (fun g e => ((unhide OW1).lt g e).2)
  have wl : Hid (w.heap.size + 1 < w3.heap.size) := hide (unhide QU).lt
  have v0 := (unhide QV).at (o := 0) (v := .slice e.h0.a e.h0.len e.h0.cap) rfl
  have v1 := (unhide QV).at (o := 1) (v := .slice e.h1.a e.h1.len e.h1.cap) rfl
  have v2 := (unhide QV).at (o := 2) (v := .slice e.h2.a e.h2.len e.h2.cap) rfl
  go_wp2_with fail
  refine (unhide QT _ ((unhide HM).keep (unhide B))).mono ?_
  rintro r w4 ⟨⟨e4, t4, rfl, m4⟩, hb4⟩
  have T4 := hide t4
  have M4 := hide m4
  have LH : Hid (w3.heap.size ≤ w4.heap.size) := hide hb4.size
  replace QV := hide ((unhide QV).keep hb4)
  replace QU := hide ((unhide QU).keep hb4)
  replace B := hide (bTr (unhide B) hb4)
  replace OW1 := hide (own_keep (unhide OW1) hb4)
  clear hb4 m4 t4 v0 v1 v2
  obtain ⟨W5, hW5⟩ : ∃ W, W = w4.alloc (.cells #[.slice e4.h0.a e4.h0.len e4.h0.cap, .slice e4.h1.a e4.h1.len e4.h1.cap, .slice e4.h2.a e4.h2.len e4.h2.cap] 38) := ⟨_, rfl⟩
  have HW5 := hide hW5.symm
  have b45 : Below w4.heap.size w4 W5 := by rw [hW5]; exact bAl (Below.refl _ _) _
  have QX := hide (show V.RowIs W5 w4.heap.size #[.slice e4.h0.a e4.h0.len e4.h0.cap, .slice e4.h1.a e4.h1.len e4.h1.cap, .slice e4.h2.a e4.h2.len e4.h2.cap] 38 by rw [hW5]; exact V.RowIs.new w4 _ _)
  have L35 : Hid (w3.heap.size ≤ W5.heap.size) := hide (Nat.le_trans (unhide LH) b45.size)
  replace QV := hide ((unhide QV).keep b45)
  replace QU := hide ((unhide QU).keep b45)
  replace B := hide (bTr (unhide B) b45)
  replace OW1 := hide (own_keep (unhide OW1) b45)
  replace M4 := hide ((unhide M4).keep b45)
  clear hW5 b45 LH
  have y0 := (unhide QU).at (o := 0) (v := .slice x.h0.a x.h0.len x.h0.cap) rfl
  have y1 := (unhide QU).at (o := 1) (v := .slice x.h1.a x.h1.len x.h1.cap) rfl
  have y2 := (unhide QU).at (o := 2) (v := .slice x.h2.a x.h2.len x.h2.cap) rfl
  have y3 := (unhide QU).at (o := 3) (v := .int .i64 x.t.f3) rfl
  rw [← unhide HW5] at y0 y1 y2 y3
  go_wp2_with fail
  rw [unhide HW5]
  refine (unhide QW _ ((unhide HXM).keep (unhide B))).mono ?_
  rintro r w6 ⟨⟨x6, t6, rfl, m6⟩, hb6⟩
  replace QV := hide ((unhide QV).keep hb6)
  replace QU := hide ((unhide QU).keep hb6)
  replace QX := hide ((unhide QX).keep hb6)
  replace B := hide (bTr (unhide B) hb6)
  replace OW1 := hide (own_keep (unhide OW1) hb6)
  replace M4 := hide ((unhide M4).keep hb6)
  have LH : Hid (w3.heap.size ≤ w6.heap.size) := hide (Nat.le_trans (unhide L35) hb6.size)
  have m6' := m6.lo (unhide L35)
  have SH : Hid (ShR w6 w3.heap.size w6.heap.size e4.h0 ∧ ShP w6 w3.heap.size w6.heap.size e4.h1 ∧ ShS w6 w3.heap.size w6.heap.size e4.h2 ∧ ShI w6 w3.heap.size w6.heap.size x6.h0 ∧ ShG w6 w3.heap.size w6.heap.size x6.h1 ∧ ShX w6 w3.heap.size w6.heap.size x6.h2) := hide ⟨shR_of (unhide M4).m0 (by rw [unhide T4]; exact (unhide SM).o0) (unhide lo0), shP_of (unhide M4).m1 (by rw [unhide T4]; exact (unhide SM).o1) (unhide lo0), shS_of (unhide M4).m2 (unhide lo0), shI_of m6'.m0 (unhide lo0), shG_of m6'.m1 (unhide lo0), shX_of m6'.m2 (by rw [t6]; exact (unhide SMx).o2) (unhide lo0)⟩
  have L4 : Hid (e4.h0.len ≤ 1048576 ∧ e4.h1.len ≤ 1048576 ∧ e4.h2.len ≤ 1048576) := hide ⟨by rw [(unhide M4).m0.len, unhide T4]; exact (unhide SM).l0, by rw [(unhide M4).m1.len, unhide T4]; exact (unhide SM).l1, by rw [(unhide M4).m2.1, unhide T4]; exact (unhide SM).l2⟩
  have L6 : Hid (x6.h0.len ≤ 1048576 ∧ x6.h1.len ≤ 1048576 ∧ x6.h2.len ≤ 1048576) := hide ⟨by rw [m6.m0.1, t6]; exact (unhide SMx).l0, by rw [m6.m1.len, t6]; exact (unhide SMx).l1, by rw [m6.m2.len, t6]; exact (unhide SMx).l2⟩
  have S4 := hide ((unhide M4).lo (Nat.zero_le _))
  have S6 := hide (m6.lo (Nat.zero_le _))
  have T6 := hide t6
  clear hb6 m6 m6' t6 lo0 M4 L35 y0 y1 y2 y3 HW5
  obtain ⟨lo, hlo⟩ : ∃ lo, lo = w3.heap.size := ⟨_, rfl⟩
  obtain ⟨hi, hhi⟩ : ∃ hi, hi = w6.heap.size := ⟨_, rfl⟩
  rw [← hlo, ← hhi] at SH LH
  rw [← hlo] at g0 wl
  have Z := hide (show hi ≤ w6.heap.size from Nat.le_of_eq hhi)
  obtain ⟨W7, hW7⟩ : ∃ W, W = w6.alloc (.cells #[.slice x6.h0.a x6.h0.len x6.h0.cap, .slice x6.h1.a x6.h1.len x6.h1.cap, .slice x6.h2.a x6.h2.len x6.h2.cap, .int .i64 x6.t.f3] 43) := ⟨_, rfl⟩
  have HW7 := hide hW7.symm
  have b67 : Below w6.heap.size w6 W7 := by rw [hW7]; exact bAl (Below.refl _ _) _
  have QY := hide (show V.RowIs W7 w6.heap.size #[.slice x6.h0.a x6.h0.len x6.h0.cap, .slice x6.h1.a x6.h1.len x6.h1.cap, .slice x6.h2.a x6.h2.len x6.h2.cap, .int .i64 x6.t.f3] 43 by rw [hW7]; exact V.RowIs.new w6 _ _)
  have by0 : Hid (hi ≤ w6.heap.size) := Z
  clear hlo hhi
  replace QV := hide ((unhide QV).keep b67)
  replace QU := hide ((unhide QU).keep b67)
  replace QX := hide ((unhide QX).keep b67)
  replace OW1 := hide (own_keep (unhide OW1) b67)
  replace S4 := hide ((unhide S4).keep b67)
  replace S6 := hide ((unhide S6).keep b67)
  replace SH := hide (And.intro (((unhide SH).1).mv (Mk.below (Nat.le_trans (unhide LH) (unhide Z)) b67)) (And.intro (((unhide SH).2.1).mv (Mk.below (Nat.le_trans (unhide LH) (unhide Z)) b67)) (And.intro (((unhide SH).2.2.1).mv (Mk.below (Nat.le_trans (unhide LH) (unhide Z)) b67)) (And.intro (((unhide SH).2.2.2.1).mv (Mk.below (Nat.le_trans (unhide LH) (unhide Z)) b67)) (And.intro (((unhide SH).2.2.2.2.1).mv (Mk.below (Nat.le_trans (unhide LH) (unhide Z)) b67)) (((unhide SH).2.2.2.2.2).mv (Mk.below (Nat.le_trans (unhide LH) (unhide Z)) b67)))))))
  replace Z := hide (Nat.le_trans (unhide Z) b67.size)
  replace B := hide (bTr (unhide B) b67)
  clear hW7 b67
  have hi7 := hide (unhide qI e4 x6 W7 (unhide T4) (unhide T6) (unhide SMx) (unhide S4) (unhide S6))
  have z0 := (unhide QX).at (o := 0) (v := .slice e4.h0.a e4.h0.len e4.h0.cap) rfl
  have z1 := (unhide QX).at (o := 1) (v := .slice e4.h1.a e4.h1.len e4.h1.cap) rfl
  have z2 := (unhide QX).at (o := 2) (v := .slice e4.h2.a e4.h2.len e4.h2.cap) rfl
  rw [← unhide HW7] at z0 z1 z2
  go_wp2_with fail
  rw [unhide HW7]
  refine (unhide hi7).mono ?_
  rintro r w8 ⟨⟨u2, r2, rfl, an2, ow2⟩, hb8⟩
  obtain rfl := (unhide AN1).uniq an2
  have OW2 := hide ow2
  have g2 : Hid (∀ g, u2.ownBlock = some g → hi ≤ g) := hide (fun g e => Nat.le_trans (unhide Z) (ow2.lt g e).1)
  replace QV := hide ((unhide QV).keep hb8)
  replace QU := hide ((unhide QU).keep hb8)
  replace QX := hide ((unhide QX).keep hb8)
  replace QY := hide ((unhide QY).keep hb8)
  replace OW1 := hide (own_keep (unhide OW1) hb8)
  replace S4 := hide ((unhide S4).keep hb8)
  replace S6 := hide ((unhide S6).keep hb8)
  replace SH := hide (And.intro (((unhide SH).1).mv (Mk.below (Nat.le_trans (unhide LH) (unhide Z)) hb8)) (And.intro (((unhide SH).2.1).mv (Mk.below (Nat.le_trans (unhide LH) (unhide Z)) hb8)) (And.intro (((unhide SH).2.2.1).mv (Mk.below (Nat.le_trans (unhide LH) (unhide Z)) hb8)) (And.intro (((unhide SH).2.2.2.1).mv (Mk.below (Nat.le_trans (unhide LH) (unhide Z)) hb8)) (And.intro (((unhide SH).2.2.2.2.1).mv (Mk.below (Nat.le_trans (unhide LH) (unhide Z)) hb8)) (((unhide SH).2.2.2.2.2).mv (Mk.below (Nat.le_trans (unhide LH) (unhide Z)) hb8)))))))
  replace Z := hide (Nat.le_trans (unhide Z) hb8.size)
  replace B := hide (bTr (unhide B) hb8)
  clear hb8 hi7 an2 ow2 HW7 z0 z1 z2
  obtain ⟨a2, c2, e2', s2⟩ := own_strs (unhide OW2)
  subst e2'
  clear s2
  have HML : Hid (r1.length ≤ maxLen) := hide (by unfold maxLen; omega)
  have q3 := hide (V.eqStringS_n ⟨a2, r1.length, c2⟩ ⟨a1, r1.length, c1⟩ r1 w8 (unhide HML) (V.SqS.of (V.sls_back (own_str9 (unhide OW2)))) (V.SqS.of (V.sls_back (own_str9 (unhide OW1)))))
  go_wp2_with fail
  refine (unhide q3).mono ?_
  rintro r w9 ⟨rfl, hb9⟩
  replace QV := hide ((unhide QV).keep hb9)
  replace QU := hide ((unhide QU).keep hb9)
  replace QX := hide ((unhide QX).keep hb9)
  replace QY := hide ((unhide QY).keep hb9)
  replace OW1 := hide (own_keep (unhide OW1) hb9)
  replace OW2 := hide (own_keep (unhide OW2) hb9)
  replace S4 := hide ((unhide S4).keep hb9)
  replace S6 := hide ((unhide S6).keep hb9)
  replace SH := hide (And.intro (((unhide SH).1).mv (Mk.below (Nat.le_trans (unhide LH) (unhide Z)) hb9)) (And.intro (((unhide SH).2.1).mv (Mk.below (Nat.le_trans (unhide LH) (unhide Z)) hb9)) (And.intro (((unhide SH).2.2.1).mv (Mk.below (Nat.le_trans (unhide LH) (unhide Z)) hb9)) (And.intro (((unhide SH).2.2.2.1).mv (Mk.below (Nat.le_trans (unhide LH) (unhide Z)) hb9)) (And.intro (((unhide SH).2.2.2.2.1).mv (Mk.below (Nat.le_trans (unhide LH) (unhide Z)) hb9)) (((unhide SH).2.2.2.2.2).mv (Mk.below (Nat.le_trans (unhide LH) (unhide Z)) hb9)))))))
  replace Z := hide (Nat.le_trans (unhide Z) hb9.size)
  replace B := hide (bTr (unhide B) hb9)
  clear hb9 q3
  obtain ⟨bq, hbq⟩ : ∃ n, n = w4.heap.size := ⟨_, rfl⟩
  obtain ⟨br, hbr⟩ : ∃ n, n = w6.heap.size := ⟨_, rfl⟩
  rw [← hbq] at QX ⊢
  rw [← hbr] at QY by0 ⊢
  clear hbq hbr
  have Y := hide (And.intro (And.intro ((unhide QX).at (o := 0) (v := .slice e4.h0.a e4.h0.len e4.h0.cap) rfl) (And.intro ((unhide QX).at (o := 1) (v := .slice e4.h1.a e4.h1.len e4.h1.cap) rfl) ((unhide QX).at (o := 2) (v := .slice e4.h2.a e4.h2.len e4.h2.cap) rfl))) (And.intro ((unhide QV).at (o := 0) (v := .slice e.h0.a e.h0.len e.h0.cap) rfl) (And.intro ((unhide QV).at (o := 1) (v := .slice e.h1.a e.h1.len e.h1.cap) rfl) ((unhide QV).at (o := 2) (v := .slice e.h2.a e.h2.len e.h2.cap) rfl))))
  go_wp2_with fail
  go_region_held3 (fun w' => (w'.cell? ⟨bq, 0, none⟩ = some (.slice e4.h0.a e4.h0.len e4.h0.cap) ∧ w'.cell? ⟨bq, 1, none⟩ = some (.slice e4.h1.a e4.h1.len e4.h1.cap) ∧ w'.cell? ⟨bq, 2, none⟩ = some (.slice e4.h2.a e4.h2.len e4.h2.cap)) ∧ (w'.cell? ⟨w.heap.size, 0, none⟩ = some (.slice e.h0.a e.h0.len e.h0.cap) ∧ w'.cell? ⟨w.heap.size, 1, none⟩ = some (.slice e.h1.a e.h1.len e.h1.cap) ∧ w'.cell? ⟨w.heap.size, 2, none⟩ = some (.slice e.h2.a e.h2.len e.h2.cap)))
    (first | exact unhide Y | exact unhide Ya | exact unhide Yb)
    (first
      | (go_at_call 7; refine (unhide QT _ ((unhide HM).keep (unhide B).drew)).mono ?_; rintro r wa ⟨⟨e7, t7, rfl, m7⟩, hb7⟩; replace hb7 := undrew hb7; have QXa := hide ((unhide QX).keep hb7); have QVa := hide ((unhide QV).keep hb7); have Ya := hide (And.intro (And.intro ((unhide QXa).at (o := 0) (v := .slice e4.h0.a e4.h0.len e4.h0.cap) rfl) (And.intro ((unhide QXa).at (o := 1) (v := .slice e4.h1.a e4.h1.len e4.h1.cap) rfl) ((unhide QXa).at (o := 2) (v := .slice e4.h2.a e4.h2.len e4.h2.cap) rfl))) (And.intro ((unhide QVa).at (o := 0) (v := .slice e.h0.a e.h0.len e.h0.cap) rfl) (And.intro ((unhide QVa).at (o := 1) (v := .slice e.h1.a e.h1.len e.h1.cap) rfl) ((unhide QVa).at (o := 2) (v := .slice e.h2.a e.h2.len e.h2.cap) rfl)))); have HB7 := hide hb7; have q9 := hide (V.eqRoleSet_n e4 e7 wa (by rw [t7, unhide T4]) (by rw [unhide T4]; exact unhide HN) ((unhide S4).keep hb7) (m7.lo (Nat.zero_le _))); clear hb7 m7 t7)
      | (go_at_call 11; refine (unhide q9).mono ?_; rintro r wb ⟨rfl, hb9⟩; have QXb := hide ((unhide QXa).keep hb9); have QVb := hide ((unhide QVa).keep hb9); have Yb := hide (And.intro (And.intro ((unhide QXb).at (o := 0) (v := .slice e4.h0.a e4.h0.len e4.h0.cap) rfl) (And.intro ((unhide QXb).at (o := 1) (v := .slice e4.h1.a e4.h1.len e4.h1.cap) rfl) ((unhide QXb).at (o := 2) (v := .slice e4.h2.a e4.h2.len e4.h2.cap) rfl))) (And.intro ((unhide QVb).at (o := 0) (v := .slice e.h0.a e.h0.len e.h0.cap) rfl) (And.intro ((unhide QVb).at (o := 1) (v := .slice e.h1.a e.h1.len e.h1.cap) rfl) ((unhide QVb).at (o := 2) (v := .slice e.h2.a e.h2.len e.h2.cap) rfl)))); have HB9 := hide (bTr (unhide HB7) hb9); clear hb9))
  iterate 14 (try clear hHeld)
  have hb10 := unhide HB9
  replace QV := hide ((unhide QV).keep hb10)
  replace QU := hide ((unhide QU).keep hb10)
  replace QX := hide ((unhide QX).keep hb10)
  replace QY := hide ((unhide QY).keep hb10)
  replace OW1 := hide (own_keep (unhide OW1) hb10)
  replace OW2 := hide (own_keep (unhide OW2) hb10)
  replace S4 := hide ((unhide S4).keep hb10)
  replace S6 := hide ((unhide S6).keep hb10)
  replace SH := hide (And.intro (((unhide SH).1).mv (Mk.below (Nat.le_trans (unhide LH) (unhide Z)) hb10)) (And.intro (((unhide SH).2.1).mv (Mk.below (Nat.le_trans (unhide LH) (unhide Z)) hb10)) (And.intro (((unhide SH).2.2.1).mv (Mk.below (Nat.le_trans (unhide LH) (unhide Z)) hb10)) (And.intro (((unhide SH).2.2.2.1).mv (Mk.below (Nat.le_trans (unhide LH) (unhide Z)) hb10)) (And.intro (((unhide SH).2.2.2.2.1).mv (Mk.below (Nat.le_trans (unhide LH) (unhide Z)) hb10)) (((unhide SH).2.2.2.2.2).mv (Mk.below (Nat.le_trans (unhide LH) (unhide Z)) hb10)))))))
  replace Z := hide (Nat.le_trans (unhide Z) hb10.size)
  replace B := hide (bTr (unhide B) hb10)
  clear hb10 HB9 HB7 q9 QXa QXb QVa QVb Y Ya Yb S4
  have Y := hide (And.intro (And.intro ((unhide QY).at (o := 0) (v := .slice x6.h0.a x6.h0.len x6.h0.cap) rfl) (And.intro ((unhide QY).at (o := 1) (v := .slice x6.h1.a x6.h1.len x6.h1.cap) rfl) (And.intro ((unhide QY).at (o := 2) (v := .slice x6.h2.a x6.h2.len x6.h2.cap) rfl) ((unhide QY).at (o := 3) (v := .int .i64 x6.t.f3) rfl)))) (And.intro ((unhide QU).at (o := 0) (v := .slice x.h0.a x.h0.len x.h0.cap) rfl) (And.intro ((unhide QU).at (o := 1) (v := .slice x.h1.a x.h1.len x.h1.cap) rfl) (And.intro ((unhide QU).at (o := 2) (v := .slice x.h2.a x.h2.len x.h2.cap) rfl) ((unhide QU).at (o := 3) (v := .int .i64 x.t.f3) rfl)))))
  go_wp2_with fail
  go_region_held3 (fun w' => (w'.cell? ⟨br, 0, none⟩ = some (.slice x6.h0.a x6.h0.len x6.h0.cap) ∧ w'.cell? ⟨br, 1, none⟩ = some (.slice x6.h1.a x6.h1.len x6.h1.cap) ∧ w'.cell? ⟨br, 2, none⟩ = some (.slice x6.h2.a x6.h2.len x6.h2.cap) ∧ w'.cell? ⟨br, 3, none⟩ = some (.int .i64 x6.t.f3)) ∧ (w'.cell? ⟨w.heap.size + 1, 0, none⟩ = some (.slice x.h0.a x.h0.len x.h0.cap) ∧ w'.cell? ⟨w.heap.size + 1, 1, none⟩ = some (.slice x.h1.a x.h1.len x.h1.cap) ∧ w'.cell? ⟨w.heap.size + 1, 2, none⟩ = some (.slice x.h2.a x.h2.len x.h2.cap) ∧ w'.cell? ⟨w.heap.size + 1, 3, none⟩ = some (.int .i64 x.t.f3)))
    (first | exact unhide Y | exact unhide Ya | exact unhide Yb)
    (first
      | (go_at_call 8; refine (unhide QW _ ((unhide HXM).keep (unhide B).drew)).mono ?_; rintro r wc ⟨⟨x7, t7, rfl, m7⟩, hb7⟩; replace hb7 := undrew hb7; have QXa := hide ((unhide QY).keep hb7); have QVa := hide ((unhide QU).keep hb7); have Ya := hide (And.intro (And.intro ((unhide QXa).at (o := 0) (v := .slice x6.h0.a x6.h0.len x6.h0.cap) rfl) (And.intro ((unhide QXa).at (o := 1) (v := .slice x6.h1.a x6.h1.len x6.h1.cap) rfl) (And.intro ((unhide QXa).at (o := 2) (v := .slice x6.h2.a x6.h2.len x6.h2.cap) rfl) ((unhide QXa).at (o := 3) (v := .int .i64 x6.t.f3) rfl)))) (And.intro ((unhide QVa).at (o := 0) (v := .slice x.h0.a x.h0.len x.h0.cap) rfl) (And.intro ((unhide QVa).at (o := 1) (v := .slice x.h1.a x.h1.len x.h1.cap) rfl) (And.intro ((unhide QVa).at (o := 2) (v := .slice x.h2.a x.h2.len x.h2.cap) rfl) ((unhide QVa).at (o := 3) (v := .int .i64 x.t.f3) rfl))))); have HB7 := hide hb7; have q9 := hide (V.eqRoleState_n x6 x7 wc (by rw [t7, unhide T6]) (by rw [unhide T6]; exact unhide HXN) ((unhide S6).keep hb7) (m7.lo (Nat.zero_le _))); clear hb7 m7 t7)
      | (go_at_call 12; refine (unhide q9).mono ?_; rintro r wd ⟨rfl, hb9⟩; have QXb := hide ((unhide QXa).keep hb9); have QVb := hide ((unhide QVa).keep hb9); have Yb := hide (And.intro (And.intro ((unhide QXb).at (o := 0) (v := .slice x6.h0.a x6.h0.len x6.h0.cap) rfl) (And.intro ((unhide QXb).at (o := 1) (v := .slice x6.h1.a x6.h1.len x6.h1.cap) rfl) (And.intro ((unhide QXb).at (o := 2) (v := .slice x6.h2.a x6.h2.len x6.h2.cap) rfl) ((unhide QXb).at (o := 3) (v := .int .i64 x6.t.f3) rfl)))) (And.intro ((unhide QVb).at (o := 0) (v := .slice x.h0.a x.h0.len x.h0.cap) rfl) (And.intro ((unhide QVb).at (o := 1) (v := .slice x.h1.a x.h1.len x.h1.cap) rfl) (And.intro ((unhide QVb).at (o := 2) (v := .slice x.h2.a x.h2.len x.h2.cap) rfl) ((unhide QVb).at (o := 3) (v := .int .i64 x.t.f3) rfl))))); have HB9 := hide (bTr (unhide HB7) hb9); clear hb9))
  iterate 14 (try clear hHeld)
  have hb10 := unhide HB9
  replace QV := hide ((unhide QV).keep hb10)
  replace QU := hide ((unhide QU).keep hb10)
  replace QX := hide ((unhide QX).keep hb10)
  replace QY := hide ((unhide QY).keep hb10)
  replace OW1 := hide (own_keep (unhide OW1) hb10)
  replace OW2 := hide (own_keep (unhide OW2) hb10)
  replace SH := hide (And.intro (((unhide SH).1).mv (Mk.below (Nat.le_trans (unhide LH) (unhide Z)) hb10)) (And.intro (((unhide SH).2.1).mv (Mk.below (Nat.le_trans (unhide LH) (unhide Z)) hb10)) (And.intro (((unhide SH).2.2.1).mv (Mk.below (Nat.le_trans (unhide LH) (unhide Z)) hb10)) (And.intro (((unhide SH).2.2.2.1).mv (Mk.below (Nat.le_trans (unhide LH) (unhide Z)) hb10)) (And.intro (((unhide SH).2.2.2.2.1).mv (Mk.below (Nat.le_trans (unhide LH) (unhide Z)) hb10)) (((unhide SH).2.2.2.2.2).mv (Mk.below (Nat.le_trans (unhide LH) (unhide Z)) hb10)))))))
  replace Z := hide (Nat.le_trans (unhide Z) hb10.size)
  replace B := hide (bTr (unhide B) hb10)
  clear hb10 HB9 HB7 q9 QXa QXb QVa QVb Y Ya Yb S6
  have q4 := hide (markRS_b lo hi e4.h0 e4.h1 e4.h2 wd (unhide LH) (unhide Z) (unhide L4).1 (unhide L4).2.1 (unhide L4).2.2 (unhide SH).1 (unhide SH).2.1 (unhide SH).2.2.1)
  have x0 := (unhide QX).at (o := 0) (v := .slice e4.h0.a e4.h0.len e4.h0.cap) rfl
  have x1 := (unhide QX).at (o := 1) (v := .slice e4.h1.a e4.h1.len e4.h1.cap) rfl
  have x2 := (unhide QX).at (o := 2) (v := .slice e4.h2.a e4.h2.len e4.h2.cap) rfl
  go_wp2_with fail
  refine (unhide q4).mono ?_
  rintro r w11 ⟨⟨K, rfl, k1, k2⟩, mk⟩
  have q4' := hide (markSt_w lo hi x6.h0 x6.h1 x6.h2 x6.t.f3 K w11 k1 k2 (unhide LH) (Nat.le_trans (unhide Z) mk.b.size) (unhide L6).1 (unhide L6).2.1 (unhide L6).2.2 ((unhide SH).2.2.2.1.mv mk) ((unhide SH).2.2.2.2.1.mv mk) ((unhide SH).2.2.2.2.2.mv mk))
  replace QY := hide (mk.row (unhide by0) (unhide QY))
  replace OW1 := hide (own_mk (unhide OW1) mk (fun g e => .inl (unhide g0 g e)))
  replace OW2 := hide (own_mk (unhide OW2) mk (fun g e => .inr (unhide g2 g e)))
  have wl0 : w.heap.size < lo := Nat.lt_of_succ_lt (unhide wl)
  have hbm : Below w.heap.size w w11 := (unhide B).trans (mk.b.mono (Nat.le_of_lt wl0))
  have raw : Hid (V.RowIs w11 w.heap.size #[.slice e.h0.a e.h0.len e.h0.cap, .slice e.h1.a e.h1.len e.h1.cap, .slice e.h2.a e.h2.len e.h2.cap] 26) := hide (by
    have h1 := unhide QV
    unfold V.RowIs at h1 ⊢
    rw [mk.b.block w.heap.size wl0]; exact h1)
  have rbw : Hid (V.RowIs w11 (w.heap.size + 1) #[.slice x.h0.a x.h0.len x.h0.cap, .slice x.h1.a x.h1.len x.h1.cap, .slice x.h2.a x.h2.len x.h2.cap, .int .i64 x.t.f3] 31) := hide (by
    have h1 := unhide QU
    unfold V.RowIs at h1 ⊢
    rw [mk.b.block (w.heap.size + 1) (unhide wl)]; exact h1)
  replace QV := raw
  replace QU := rbw
  replace B := hide hbm
  clear mk q4 hbm raw rbw wl0 SH QX x0 x1 x2
  have y0 := (unhide QY).at (o := 0) (v := .slice x6.h0.a x6.h0.len x6.h0.cap) rfl
  have y1 := (unhide QY).at (o := 1) (v := .slice x6.h1.a x6.h1.len x6.h1.cap) rfl
  have y2 := (unhide QY).at (o := 2) (v := .slice x6.h2.a x6.h2.len x6.h2.cap) rfl
  have y3 := (unhide QY).at (o := 3) (v := .int .i64 x6.t.f3) rfl
  go_wp2_with fail
  refine (unhide q4').mono ?_
  rintro r w11' ⟨⟨K', rfl, k1'⟩, mk⟩
  have zk : decide ((K' : Int) < 0) = false := decide_eq_false (by omega)
  replace OW1 := hide (own_mk (unhide OW1) mk (fun g e => .inl (unhide g0 g e)))
  replace OW2 := hide (own_mk (unhide OW2) mk (fun g e => .inr (unhide g2 g e)))
  have wl0 : w.heap.size < lo := Nat.lt_of_succ_lt (unhide wl)
  have hbm : Below w.heap.size w w11' := (unhide B).trans (mk.b.mono (Nat.le_of_lt wl0))
  have raw : Hid (V.RowIs w11' w.heap.size #[.slice e.h0.a e.h0.len e.h0.cap, .slice e.h1.a e.h1.len e.h1.cap, .slice e.h2.a e.h2.len e.h2.cap] 26) := hide (by
    have h1 := unhide QV
    unfold V.RowIs at h1 ⊢
    rw [mk.b.block w.heap.size wl0]; exact h1)
  have rbw : Hid (V.RowIs w11' (w.heap.size + 1) #[.slice x.h0.a x.h0.len x.h0.cap, .slice x.h1.a x.h1.len x.h1.cap, .slice x.h2.a x.h2.len x.h2.cap, .int .i64 x.t.f3] 31) := hide (by
    have h1 := unhide QU
    unfold V.RowIs at h1 ⊢
    rw [mk.b.block (w.heap.size + 1) (unhide wl)]; exact h1)
  replace QV := raw
  replace QU := rbw
  replace B := hide hbm
  clear mk q4' hbm raw rbw wl0 QY y0 y1 y2 y3
  have q3 := hide (V.eqStringS_n ⟨a2, r1.length, c2⟩ ⟨a1, r1.length, c1⟩ r1 w11' (unhide HML) (V.SqS.of (V.sls_back (own_str9 (unhide OW2)))) (V.SqS.of (V.sls_back (own_str9 (unhide OW1)))))
  go_wp2_with fail
  refine (unhide q3).mono ?_
  rintro r w12 ⟨rfl, hb12⟩
  replace QV := hide ((unhide QV).keep hb12)
  replace QU := hide ((unhide QU).keep hb12)
  replace OW1 := hide (own_keep (unhide OW1) hb12)
  replace OW2 := hide (own_keep (unhide OW2) hb12)
  replace B := hide (bTr (unhide B) hb12)
  clear hb12 q3 zk k1 k2 k1'
  have q5 := hide (V.markStr_own _ r1.length 1 (r1.map Value.string) _ w12 (by omega) (by omega) (by omega) (unhide OW2))
  have z0 : decide (((1 + r1.length : Nat) : Int) < 0) = false := decide_eq_false (by omega)
  have z1 : ¬ ((1 + r1.length : Nat) : Int) < 0 := by omega
  have qh := hide (fun w h => V.heldStr_own (.slice a2 r1.length c2) r1.length 1 w (by omega) (by omega) (by omega) h)
  obtain ⟨Q, hQ⟩ : ∃ Q : Nat, 1 + r1.length = Q := ⟨_, rfl⟩
  rw [hQ] at q5 z0 z1 qh
  clear hQ
  go_wp2_with fail
  refine (unhide q5).mono ?_
  rintro r w13 ⟨rfl, mk13, hg⟩
  have MM := hide mk13
  replace QV := hide (V.row_grownO (unhide QV) hg (fun e => by have h1 := unhide g2 _ e.symm; have h2 := unhide wl; have h3 := unhide LH; omega))
  replace QU := hide (V.row_grownO (unhide QU) hg (fun e => by have h1 := unhide g2 _ e.symm; have h2 := unhide wl; have h3 := unhide LH; omega))
  replace OW1 := hide ((unhide OW1).kept hg (by
    cases hq : (Value.slice a1 r1.length c1).ownBlock with
    | none => exact .inl rfl
    | some g => exact .inr (fun e => by have h1 := unhide g2 g e.symm; have h2 := unhide g0 g hq; have h3 := unhide LH; omega)))
  replace B := hide ((unhide B).grown hg (unhide B).size (fun j h => by have h1 := unhide g2 j h; have h2 := unhide wl; have h3 := unhide LH; omega))
  clear hg mk13 q5 OW2
  go_wp2_with fail
  refine (unhide qh _ (unhide MM)).mono ?_
  rintro r w14 ⟨rfl, hb14⟩
  replace QV := hide ((unhide QV).keep hb14)
  replace QU := hide ((unhide QU).keep hb14)
  replace OW1 := hide (own_keep (unhide OW1) hb14)
  replace B := hide (bTr (unhide B) hb14)
  replace MM := hide ((unhide MM).keep hb14)
  clear hb14
  have Y := hide (And.intro (And.intro ((unhide QV).at (o := 0) (v := .slice e.h0.a e.h0.len e.h0.cap) rfl) (And.intro ((unhide QV).at (o := 1) (v := .slice e.h1.a e.h1.len e.h1.cap) rfl) ((unhide QV).at (o := 2) (v := .slice e.h2.a e.h2.len e.h2.cap) rfl))) (And.intro ((unhide QU).at (o := 0) (v := .slice x.h0.a x.h0.len x.h0.cap) rfl) (And.intro ((unhide QU).at (o := 1) (v := .slice x.h1.a x.h1.len x.h1.cap) rfl) (And.intro ((unhide QU).at (o := 2) (v := .slice x.h2.a x.h2.len x.h2.cap) rfl) ((unhide QU).at (o := 3) (v := .int .i64 x.t.f3) rfl)))))
  go_wp2_with fail
  go_region_held3 (fun w' => (w'.cell? ⟨w.heap.size, 0, none⟩ = some (.slice e.h0.a e.h0.len e.h0.cap) ∧ w'.cell? ⟨w.heap.size, 1, none⟩ = some (.slice e.h1.a e.h1.len e.h1.cap) ∧ w'.cell? ⟨w.heap.size, 2, none⟩ = some (.slice e.h2.a e.h2.len e.h2.cap)) ∧ (w'.cell? ⟨w.heap.size + 1, 0, none⟩ = some (.slice x.h0.a x.h0.len x.h0.cap) ∧ w'.cell? ⟨w.heap.size + 1, 1, none⟩ = some (.slice x.h1.a x.h1.len x.h1.cap) ∧ w'.cell? ⟨w.heap.size + 1, 2, none⟩ = some (.slice x.h2.a x.h2.len x.h2.cap) ∧ w'.cell? ⟨w.heap.size + 1, 3, none⟩ = some (.int .i64 x.t.f3)))
    (first | exact unhide Y | exact unhide Ya | exact unhide Yb | exact unhide Yc)
    (first
      | (go_at_call 7; refine (unhide QT _ ((unhide HM).keep (unhide B).drew)).mono ?_; rintro r wa ⟨⟨e2, t2, rfl, m2⟩, hb7⟩; replace hb7 := undrew hb7; have QVa := hide ((unhide QV).keep hb7); have QUa := hide ((unhide QU).keep hb7); have Ba := hide (bTr (unhide B) hb7); have OWa := hide (own_keep (unhide OW1) hb7); have MMa := hide ((unhide MM).keep hb7); have Ya := hide (And.intro (And.intro ((unhide QVa).at (o := 0) (v := .slice e.h0.a e.h0.len e.h0.cap) rfl) (And.intro ((unhide QVa).at (o := 1) (v := .slice e.h1.a e.h1.len e.h1.cap) rfl) ((unhide QVa).at (o := 2) (v := .slice e.h2.a e.h2.len e.h2.cap) rfl))) (And.intro ((unhide QUa).at (o := 0) (v := .slice x.h0.a x.h0.len x.h0.cap) rfl) (And.intro ((unhide QUa).at (o := 1) (v := .slice x.h1.a x.h1.len x.h1.cap) rfl) (And.intro ((unhide QUa).at (o := 2) (v := .slice x.h2.a x.h2.len x.h2.cap) rfl) ((unhide QUa).at (o := 3) (v := .int .i64 x.t.f3) rfl))))); have M2 := hide (m2.lo (Nat.zero_le _)); have T2 := hide t2; clear hb7 m2 t2)
      | (go_at_call 8; refine (unhide QW _ ((unhide HXM).keep (unhide Ba))).mono ?_; rintro r wb ⟨⟨x2, s2, rfl, n2⟩, hb8⟩; have QVb := hide ((unhide QVa).keep hb8); have QUb := hide ((unhide QUa).keep hb8); have Bb := hide (bTr (unhide Ba) hb8); have OWb := hide (own_keep (unhide OWa) hb8); have MMb := hide ((unhide MMa).keep hb8); have Yb := hide (And.intro (And.intro ((unhide QVb).at (o := 0) (v := .slice e.h0.a e.h0.len e.h0.cap) rfl) (And.intro ((unhide QVb).at (o := 1) (v := .slice e.h1.a e.h1.len e.h1.cap) rfl) ((unhide QVb).at (o := 2) (v := .slice e.h2.a e.h2.len e.h2.cap) rfl))) (And.intro ((unhide QUb).at (o := 0) (v := .slice x.h0.a x.h0.len x.h0.cap) rfl) (And.intro ((unhide QUb).at (o := 1) (v := .slice x.h1.a x.h1.len x.h1.cap) rfl) (And.intro ((unhide QUb).at (o := 2) (v := .slice x.h2.a x.h2.len x.h2.cap) rfl) ((unhide QUb).at (o := 3) (v := .int .i64 x.t.f3) rfl))))); have hs2 := hide (unhide qI e2 x2 wb (unhide T2) s2 (unhide SMx) ((unhide M2).keep hb8) (n2.lo (Nat.zero_le _))); clear hb8 s2 n2)
      | (go_at_call 9; refine (unhide hs2).mono ?_; rintro r w16 ⟨⟨u3, r3, rfl, an3, ow3⟩, hb3⟩; have QVc := hide ((unhide QVb).keep hb3); have QUc := hide ((unhide QUb).keep hb3); have Bc := hide (bTr (unhide Bb) hb3); have OWc := hide (own_keep (unhide OWb) hb3); have MMc := hide ((unhide MMb).keep hb3); have Yc := hide (And.intro (And.intro ((unhide QVc).at (o := 0) (v := .slice e.h0.a e.h0.len e.h0.cap) rfl) (And.intro ((unhide QVc).at (o := 1) (v := .slice e.h1.a e.h1.len e.h1.cap) rfl) ((unhide QVc).at (o := 2) (v := .slice e.h2.a e.h2.len e.h2.cap) rfl))) (And.intro ((unhide QUc).at (o := 0) (v := .slice x.h0.a x.h0.len x.h0.cap) rfl) (And.intro ((unhide QUc).at (o := 1) (v := .slice x.h1.a x.h1.len x.h1.cap) rfl) (And.intro ((unhide QUc).at (o := 2) (v := .slice x.h2.a x.h2.len x.h2.cap) rfl) ((unhide QUc).at (o := 3) (v := .int .i64 x.t.f3) rfl))))); have AN3 := hide an3; have OW3 := hide ow3; clear hb3 an3 ow3))
  iterate 14 (try clear hHeld)
  clear Y Ya Yb Yc QVa QUa QVb QUb QVc QUc Ba Bb OWa OWb MMa MMb QV QU B OW1 MM M2 T2 hs2
  obtain rfl := (unhide AN1).uniq (unhide AN3)
  obtain ⟨a3, c3, e3, s3⟩ := own_strs (unhide OW3)
  subst e3
  clear s3 AN3
  have q3 := hide (V.eqStringS_n ⟨a3, r1.length, c3⟩ ⟨a1, r1.length, c1⟩ r1 w16 (unhide HML) (V.SqS.of (V.sls_back (own_str9 (unhide OW3)))) (V.SqS.of (V.sls_back (own_str9 (unhide OWc)))))
  go_wp2_with fail
  refine (unhide q3).mono ?_
  rintro r w17 ⟨rfl, hb17⟩
  have B := hide (bTr (unhide Bc) hb17)
  have MM := hide ((unhide MMc).keep hb17)
  clear hb17 q3
  go_wp2_with fail
  refine (unhide qh _ (unhide MM)).mono ?_
  rintro r w18 ⟨rfl, hb18⟩
  replace B := hide (bTr (unhide B) hb18)
  clear hb18
  go_wp2_with fail
  go_ret
  exact ⟨rfl, unhide B⟩

set_option maxRecDepth 100000 in
theorem lifted (os : Os) (started : os.Started) (H : Type) (enc : TypeId × Value → H) :
    ReturnsInHanded {} Tryz.checked os 3 .any (Rows.fnExactAuthorisedSpec.pre6 enc Tryz.prog Tryz.f3 Rows.fnExactAuthorisedRow.domain false) (Rows.fnExactAuthorisedSpec.post enc Tryz.prog Tryz.f3 false true false false) := by
  refine returnsInHanded_of_change (C := Tryz.checked) own started (by kernel_rfl) Tryz.func3
    (ChangeSpec.witness6 (enc := enc) (C := Tryz.checked) false ⟨#[], #[.agg #[.slice none 0 0, .slice none 0 0, .slice none 0 0], .agg #[.slice none 0 0, .slice none 0 0, .slice none 0 0, .int .i64 0], .string ByteArray.empty, .int .i64 0], []⟩ 8 (by kernel_rfl) (by kernel_rfl) (by kernel_rfl) (by kernel_rfl)) ?_
  intro W base args ds gs before hval0 hW hcnd _
  have hval : ∀ (j : Nat) t v, Tryz.f3.params[j]? = some t → args[j]? = some v → Value.okWide Tryz.prog W .any base t v := hval0
  have hW' := hW
  obtain ⟨p, q, hA0, hV, rfl, hfz, hnd⟩ := hW
  have hA : DataW.TrodAll enc Tryz.prog W 0 (fun _ => true) true Tryz.f3.params.toList args.toList ds p := hA0
  rw [Tryz.params3] at hA hval
  obtain ⟨v0, vs0, d0, ds0, p0, q0, hargs, rfl, rfl, h0, r0⟩ := trodAll_cons hA
  obtain ⟨v1, vs1, d1, ds1, p1, q1, rfl, rfl, rfl, h1, r1⟩ := trodAll_cons r0
  obtain ⟨v2, vs2, d2, ds2, p2, q2, rfl, rfl, rfl, h2, r2⟩ := trodAll_cons r1
  obtain ⟨v3, vs3, d3, ds3, p3, q3, rfl, rfl, rfl, h3, r3⟩ := trodAll_cons r2
  obtain ⟨rfl, rfl, rfl⟩ := trodAll_nil r3
  obtain rfl : args = #[v0, v1, v2, v3] := by cases args; simp_all
  obtain ⟨rfl, rfl⟩ := trodVars_none hV
  have k0 := h0
  have lt0 : ∀ x ∈ p0, x.block < W.heap.size := by obtain ⟨m, hm⟩ := k0; exact DataW.trod_lt m _ _ _ hm
  obtain ⟨g0, e0, o0, s0⟩ := V.came_RoleSet (hval 0 26 v0 rfl rfl) h0
  subst e0
  have k1 := h1
  have lt1 : ∀ x ∈ p1, x.block < W.heap.size := by obtain ⟨m, hm⟩ := k1; exact DataW.trod_lt m _ _ _ hm
  obtain ⟨g1, e1, o1, s1⟩ := V.came_RoleState (hval 1 31 v1 rfl rfl) h1
  subst e1
  obtain ⟨a2, rfl, rfl, rfl, w2⟩ := open_string Tryz.underlying9 (hval 2 9 v2 rfl rfl) h2
  obtain ⟨a3, rfl, rfl, rfl, w3⟩ := open_int Tryz.underlying3 (hval 3 3 v3 rfl rfl) h3
  clear hA0 hval0
  refine (walk g0 g1 a2 a3 W o0 s0 o1 s1 w2).mono fun e W' ⟨he, bel⟩ => ?_
  subst he
  exact ⟨_, rfl, _, _, _, [], _, [], hW', trodAll_mk1 (shut_bool Tryz.underlying4 _), (trodAll_cons_mk (Below.trod laidOut (by kernel_rfl) (of_decide_eq_true (by kernel_rfl)) k0 bel lt0) (trodAll_cons_mk (Below.trod laidOut (by kernel_rfl) (of_decide_eq_true (by kernel_rfl)) k1 bel lt1) (trodAll_cons_mk (shut_string Tryz.underlying9 w2) (trodAll_cons_mk (shut_int Tryz.underlying3 w3) trodAll_mk0)))), rfl, bel.frame _, fun h => by cases h⟩

theorem over : Rows.fnExactAuthorisedRow.holds Tryz.pinned (OpenSpec.ofChange Rows.fnExactAuthorisedSpec) :=
  OpenClaim.holds_of_wide 3 Tryz.f3 rfl rfl rfl rfl rfl rfl rfl ⟨rfl, rfl, rfl, rfl, rfl⟩ rfl rfl rfl rfl rfl (by kernel_rfl) Tryz.func3 (by kernel_rfl)
    (of_decide_eq_true (by kernel_rfl)) (by unfold Func.isWrapper; rw [if_neg (by decide +kernel)]; exact ⟨rfl, rfl⟩)
    (fun os started H enc _ => lifted os started H enc)
end Go.Proofs.YtfbncneeimikcaaGreat.fnExactAuthorised
namespace Go.Proofs.YtfbncneeimikcaaGreat
theorem fnExactAuthorised_holds : Rows.FnExactAuthorisedSaid := fnExactAuthorised.over
end Go.Proofs.YtfbncneeimikcaaGreat

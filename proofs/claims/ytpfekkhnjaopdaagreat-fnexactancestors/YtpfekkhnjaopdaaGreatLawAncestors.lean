/- LawAncestors, one behind the other. -/
import Derived.Test.YtpfekkhnjaopdaaGreatRows
import Derived.Test.YtpfekkhnjaopdaaGreatNLa
import Derived.Test.YtpfekkhnjaopdaaGreatJ31
import Derived.Test.YtpfekkhnjaopdaaGreatJ30
import Derived.WalkKit
import Derived.ProofKit
import Derived.OpenShut
import Derived.ShutString
import Derived.ChangeOld
import Derived.Below
import Derived.Lib.SmallJoins
import Derived.Deep.RegionHeld3
/- The row of laws.FnExactAncestors: its walk, then the row's step. -/
namespace Go.Proofs.YtpfekkhnjaopdaaGreat.fnExactAncestors
open Go.ChangeShapes Go.WideShapes Go.ChangeAt Go.RowKit Go.Joins
open Go.ChangeMaps (open_string shut_string)
set_option linter.unusedVariables false

theorem own : ownKnob Tryz.prog.godebug = none := by kernel_rfl
theorem laidOut : laidOutB Tryz.prog = true := by kernel_rfl

open V in
set_option maxRecDepth 40000 in
set_option maxHeartbeats 8000000 in
theorem walk (hd : V.Hd) (xs : List V.ThingT) (a : V.AtomT) (w : World) (hs : V.SqThing w 0 hd xs) (hn : ∀ q ∈ xs, V.ThingN q) (hl : xs.length ≤ maxLen) (ha : a.Ok) :
    Calls Tryz.prog 3 #[.slice hd.a hd.len hd.cap, V.encA a] w fun r w' => r = .returned (.bool true) ∧ Below w.heap.size w w' := by
  have qz := hide (fun q w h0 h1 hs => V.szThingS_n hd xs q w h0 h1 hn hl hs)
  have qt := hide (fun w g hs => V.toThingS_n hd xs w g hs)
  have qza := hide (fun l w h0 h1 => szAtom_any a.x a.n l a.t a.y w h0 h1 ha.t9 ha.y9)
  have qta := hide (fun w => toAtom_any a.x a.n a.t a.y w)
  have qs := hide (fun (hd : V.Hd) (w : World) (hs : V.SqThing w 0 hd xs) => (show Calls Tryz.prog 7 #[.slice hd.a hd.len hd.cap, V.encA a] w fun r w' => (∃ v rr, r = .returned v ∧ V.AncIs xs a rr ∧ w'.ownsRow w.heap.size 31 4 v rr.length (V.atomsV rr)) ∧ Below w.heap.size w w' from by
    obtain ⟨lt, e, hs⟩ := hs
    rw [← e]
    exact V.sAncestors_n hd lt a w (fun z hz => hn _ (by rw [← e]; exact List.mem_map_of_mem hz)) (by rw [← e] at hl; simpa using hl) hs ha))
  have qi := hide (fun (hd : V.Hd) (w : World) (hs : V.SqThing w 0 hd xs) => (show Calls Tryz.prog 10 #[.slice hd.a hd.len hd.cap, V.encA a] w fun r w' => (∃ v rr, r = .returned v ∧ V.AncIs xs a rr ∧ w'.ownsRow w.heap.size 31 4 v rr.length (V.atomsV rr)) ∧ Below w.heap.size w w' from by
    obtain ⟨lt, e, hs⟩ := hs
    rw [← e]
    exact V.iAncestors_n hd lt a w (fun z hz => hn _ (by rw [← e]; exact List.mem_map_of_mem hz)) (by rw [← e] at hl; simpa using hl) hs ha))
  have qe := hide (fun h g w h1 h2 => V.eqThingS_n h g xs w hl hn h1 h2)
  have HS := hide hs
  obtain ⟨W0, hW0⟩ : ∃ W, W = w.alloc (.cells #[.int .i64 a.x, .int .i64 a.n, .string a.t, .string a.y] 24) := ⟨_, rfl⟩
  have B : Hid (Below w.heap.size w W0) := hide (by rw [hW0]; exact bAl (Below.refl _ _) _)
  have RA : Hid (V.RowIs W0 w.heap.size #[.int .i64 a.x, .int .i64 a.n, .string a.t, .string a.y] 24) := hide (by rw [hW0]; exact V.RowIs.new w _ _)
  have HW := hide hW0.symm
  clear hs hn hl ha hW0
  unfold V.encA at qs qi ⊢
  go_enter Tryz.func3, Tryz.ntmps3
  go_wp2_with fail
  rw [unhide HW]
  refine (unhide qz _ _ (by omega) (by omega) ((unhide HS).keep (unhide B))).mono ?_
  rintro r w1 ⟨⟨m, hm1, hm2, hm3, rfl⟩, hb1⟩
  replace B := hide (bTr (unhide B) hb1)
  replace RA := hide ((unhide RA).keep hb1)
  clear hb1 qz HW
  by_cases hlt : m < 0
  · go_wp2_with fail
    go_ret
    exact ⟨rfl, unhide B⟩
  have SM := hide (hm3 (by omega))
  have QT := hide (fun w hs => unhide qt w (unhide SM) hs)
  clear qt hm3
  have d0 := (unhide RA).at (o := 0) (v := .int .i64 a.x) rfl
  have d1 := (unhide RA).at (o := 1) (v := .int .i64 a.n) rfl
  have d2 := (unhide RA).at (o := 2) (v := .string a.t) rfl
  have d3 := (unhide RA).at (o := 3) (v := .string a.y) rfl
  go_wp2_with fail
  refine (unhide qza _ _ (by omega) (by omega)).mono ?_
  rintro r w3 ⟨⟨m3, hm5, hm6, rfl⟩, hb3⟩
  replace B := hide (bTr (unhide B) hb3)
  replace RA := hide ((unhide RA).keep hb3)
  clear hb3 qza d0 d1 d2 d3
  by_cases hlt3 : m3 < 0
  · go_wp2_with fail
    go_ret
    exact ⟨rfl, unhide B⟩
  have Y := hide (And.intro ((unhide RA).at (o := 0) (v := .int .i64 a.x) rfl) (And.intro ((unhide RA).at (o := 1) (v := .int .i64 a.n) rfl) (And.intro ((unhide RA).at (o := 2) (v := .string a.t) rfl) ((unhide RA).at (o := 3) (v := .string a.y) rfl))))
  go_wp2_with fail
  go_region_held3 (fun w' => w'.cell? ⟨w.heap.size, 0, none⟩ = some (.int .i64 a.x) ∧ w'.cell? ⟨w.heap.size, 1, none⟩ = some (.int .i64 a.n) ∧ w'.cell? ⟨w.heap.size, 2, none⟩ = some (.string a.t) ∧ w'.cell? ⟨w.heap.size, 3, none⟩ = some (.string a.y))
    (first | exact unhide Y | exact unhide Ya1 | exact unhide Yb1 | exact unhide Yc1)
    (first
      | (go_at_call 8; refine (unhide QT _ ((unhide HS).keep (unhide B).drew)).mono ?_; rintro e wa1 ⟨⟨h1, rfl, m1⟩, hbq⟩; replace hbq := undrew hbq; have Ra1 := hide ((unhide RA).keep hbq); have Ya1 := hide (And.intro ((unhide Ra1).at (o := 0) (v := .int .i64 a.x) rfl) (And.intro ((unhide Ra1).at (o := 1) (v := .int .i64 a.n) rfl) (And.intro ((unhide Ra1).at (o := 2) (v := .string a.t) rfl) ((unhide Ra1).at (o := 3) (v := .string a.y) rfl)))); have Ba1 := hide (bTr (unhide B) hbq); have Ma1 := hide (m1.lo (Nat.zero_le _)); clear hbq m1)
      | (go_at_call 9; refine (unhide qta _).mono ?_; rintro e wb1 ⟨rfl, hbq⟩; have Rb1 := hide ((unhide Ra1).keep hbq); have Yb1 := hide (And.intro ((unhide Rb1).at (o := 0) (v := .int .i64 a.x) rfl) (And.intro ((unhide Rb1).at (o := 1) (v := .int .i64 a.n) rfl) (And.intro ((unhide Rb1).at (o := 2) (v := .string a.t) rfl) ((unhide Rb1).at (o := 3) (v := .string a.y) rfl)))); have Bb1 := hide (bTr (unhide Ba1) hbq); have Mb1 := hide ((unhide Ma1).keep hbq); clear hbq)
      | (go_at_call 7; refine (unhide qs h1 _ (unhide Mb1)).mono ?_; rintro e wc1 ⟨⟨v1, r1, rfl, an1, ow1⟩, hbq⟩; have Rc1 := hide ((unhide Rb1).keep hbq); have Yc1 := hide (And.intro ((unhide Rc1).at (o := 0) (v := .int .i64 a.x) rfl) (And.intro ((unhide Rc1).at (o := 1) (v := .int .i64 a.n) rfl) (And.intro ((unhide Rc1).at (o := 2) (v := .string a.t) rfl) ((unhide Rc1).at (o := 3) (v := .string a.y) rfl)))); have Bc1 := hide (bTr (unhide Bb1) hbq); have AN1 := hide an1; have OW1 := hide ow1; clear hbq an1 ow1))
  replace RA := Rc1
  replace B := Bc1
  clear Y Ya1 Yb1 Yc1 Ra1 Rb1 Rc1 Ba1 Bb1 Bc1 Ma1 Mb1
  clear qs
  obtain ⟨a0, c0, e0⟩ := own_sl (unhide OW1)
  subst e0
  have LR := (unhide AN1).len
  have lo0 : Hid (0 < wc1.heap.size) := hide (Nat.lt_of_le_of_lt (Nat.zero_le _) (unhide RA).lt)
  have g0 := hide (fun g e => ((unhide OW1).lt g e).2)
  have wl : Hid (w.heap.size ≤ wc1.heap.size) := hide (unhide B).size
  have wlt : Hid (w.heap.size < wc1.heap.size) := hide (unhide RA).lt
  go_wp2_with fail
  refine (unhide QT _ ((unhide HS).keep (unhide B))).mono ?_
  rintro r w5 ⟨⟨h4, rfl, m4⟩, hb5⟩
  have SH := hide (shT_of m4 (unhide SM).2 (unhide lo0))
  have L4 := hide (show h4.len ≤ 1048576 by rw [m4.len]; exact (unhide SM).1)
  have M4 := hide (m4.lo (Nat.zero_le _))
  have sz5 := hide hb5.size
  replace B := hide (bTr (unhide B) hb5)
  replace RA := hide ((unhide RA).keep hb5)
  replace OW1 := hide (own_keepT (unhide OW1) hb5)
  clear hb5 m4 lo0
  have d0 := (unhide RA).at (o := 0) (v := .int .i64 a.x) rfl
  have d1 := (unhide RA).at (o := 1) (v := .int .i64 a.n) rfl
  have d2 := (unhide RA).at (o := 2) (v := .string a.t) rfl
  have d3 := (unhide RA).at (o := 3) (v := .string a.y) rfl
  obtain ⟨lo, hlo⟩ : ∃ lo, lo = wc1.heap.size := ⟨_, rfl⟩
  obtain ⟨hi, hhi⟩ : ∃ hi, hi = w5.heap.size := ⟨_, rfl⟩
  rw [← hlo, ← hhi] at SH sz5
  rw [← hlo] at g0 wl wlt
  have Z := hide (show hi ≤ w5.heap.size from Nat.le_of_eq hhi)
  clear hlo hhi
  go_wp2_with fail
  refine (unhide qta _).mono ?_
  rintro r w6 ⟨rfl, hb6⟩
  replace B := hide (bTr (unhide B) hb6)
  replace RA := hide ((unhide RA).keep hb6)
  replace OW1 := hide (own_keepT (unhide OW1) hb6)
  replace M4 := hide ((unhide M4).keep hb6)
  replace SH := hide ((unhide SH).mv (Mk.below (Nat.le_trans (unhide sz5) (unhide Z)) hb6))
  replace Z := hide (Nat.le_trans (unhide Z) hb6.size)
  clear hb6 d0 d1 d2 d3
  go_wp2_with fail
  refine (unhide qi h4 _ (unhide M4)).mono ?_
  rintro r w7 ⟨⟨v2, r2, rfl, an2, ow2⟩, hb7⟩
  obtain rfl := (unhide AN1).uniq an2
  have OW2 := hide ow2
  have g2 : Hid (∀ g, v2.ownBlock = some g → hi ≤ g) := hide (fun g e => Nat.le_trans (unhide Z) (ow2.lt g e).1)
  have wl2 : Hid (w.heap.size ≤ w6.heap.size) := hide (unhide B).size
  replace B := hide (bTr (unhide B) hb7)
  replace RA := hide ((unhide RA).keep hb7)
  replace OW1 := hide (own_keepT (unhide OW1) hb7)
  replace M4 := hide ((unhide M4).keep hb7)
  replace SH := hide ((unhide SH).mv (Mk.below (Nat.le_trans (unhide sz5) (unhide Z)) hb7))
  replace Z := hide (Nat.le_trans (unhide Z) hb7.size)
  clear hb7 an2 ow2
  obtain ⟨a2, c2, e2⟩ := own_sl (unhide OW2)
  subst e2
  have ML : r1.length ≤ maxLen := by unfold maxLen; omega
  have HML := hide ML
  clear ML
  have q3 := hide (eqAtomS_same a2 a0 r1.length c2 r1.length c0 r1 w7 (sla_own (unhide OW2)) (sla_own (unhide OW1)) (unhide HML))
  go_wp2_with fail
  refine (unhide q3).mono ?_
  rintro r w8 ⟨rfl, hb8⟩
  replace B := hide (bTr (unhide B) hb8)
  replace RA := hide ((unhide RA).keep hb8)
  replace OW1 := hide (own_keepT (unhide OW1) hb8)
  replace OW2 := hide (own_keepT (unhide OW2) hb8)
  replace M4 := hide ((unhide M4).keep hb8)
  replace SH := hide ((unhide SH).mv (Mk.below (Nat.le_trans (unhide sz5) (unhide Z)) hb8))
  replace Z := hide (Nat.le_trans (unhide Z) hb8.size)
  clear hb8 q3
  go_wp2_with fail
  refine (unhide QT _ ((unhide HS).keep (unhide B))).mono ?_
  rintro r w9 ⟨⟨h6, rfl, m6⟩, hb9⟩
  have M6 := hide (m6.lo (Nat.zero_le _))
  replace B := hide (bTr (unhide B) hb9)
  replace RA := hide ((unhide RA).keep hb9)
  replace OW1 := hide (own_keepT (unhide OW1) hb9)
  replace OW2 := hide (own_keepT (unhide OW2) hb9)
  replace M4 := hide ((unhide M4).keep hb9)
  replace SH := hide ((unhide SH).mv (Mk.below (Nat.le_trans (unhide sz5) (unhide Z)) hb9))
  replace Z := hide (Nat.le_trans (unhide Z) hb9.size)
  clear hb9 m6
  go_wp2_with fail
  refine (unhide qe h4 h6 _ (unhide M4) (unhide M6)).mono ?_
  rintro r w10 ⟨rfl, hb10⟩
  replace B := hide (bTr (unhide B) hb10)
  replace RA := hide ((unhide RA).keep hb10)
  replace OW1 := hide (own_keepT (unhide OW1) hb10)
  replace OW2 := hide (own_keepT (unhide OW2) hb10)
  replace SH := hide ((unhide SH).mv (Mk.below (Nat.le_trans (unhide sz5) (unhide Z)) hb10))
  replace Z := hide (Nat.le_trans (unhide Z) hb10.size)
  clear hb10 qe M4 M6
  have q4 := hide (markT_w lo hi h4 1 w10 (Nat.le_trans (unhide sz5) (unhide Z)) (unhide L4) (by omega) (by have := unhide L4; omega) (unhide SH))
  go_wp2_with fail
  refine (unhide q4).mono ?_
  rintro r w11 ⟨⟨K, rfl, k1, k2⟩, mk⟩
  have zk : decide ((K : Int) < 0) = false := decide_eq_false (by omega)
  have zk2 : ¬ (K : Int) < 0 := by omega
  replace OW1 := hide (own_mk (unhide OW1) mk (fun g e => .inl (unhide g0 g e)))
  replace OW2 := hide (own_mk (unhide OW2) mk (fun g e => .inr (unhide g2 g e)))
  have hbm : Below w.heap.size w w11 := (unhide B).trans (mk.b.mono (unhide wl))
  have raw : Hid (V.RowIs w11 w.heap.size #[.int .i64 a.x, .int .i64 a.n, .string a.t, .string a.y] 24) := hide (by
    have h1 := unhide RA
    unfold V.RowIs at h1 ⊢
    rw [mk.b.block w.heap.size (unhide wlt)]; exact h1)
  replace RA := raw
  replace B := hide hbm
  clear mk q4 hbm raw SH
  have q3 := hide (eqAtomS_same a2 a0 r1.length c2 r1.length c0 r1 w11 (sla_own (unhide OW2)) (sla_own (unhide OW1)) (unhide HML))
  go_wp2_with fail
  refine (unhide q3).mono ?_
  rintro r w12 ⟨rfl, hb12⟩
  replace B := hide (bTr (unhide B) hb12)
  replace RA := hide ((unhide RA).keep hb12)
  replace OW1 := hide (own_keepT (unhide OW1) hb12)
  replace OW2 := hide (own_keepT (unhide OW2) hb12)
  clear hb12 q3 zk zk2 k1 k2
  have q5 := hide (markAtom_own _ r1.length 1 (atomsV r1) _ w12 (by omega) (by omega) (by omega) (unhide OW2))
  have z0 : decide (((1 + r1.length * 4 : Nat) : Int) < 0) = false := decide_eq_false (by omega)
  have z1 : ¬ ((1 + r1.length * 4 : Nat) : Int) < 0 := by omega
  have qh := hide (fun w h => heldAtom_own (.slice a2 r1.length c2) r1.length 1 w (by omega) (by omega) (by omega) h)
  obtain ⟨Q, hQ⟩ : ∃ Q : Nat, 1 + r1.length * 4 = Q := ⟨_, rfl⟩
  rw [hQ] at q5 z0 z1 qh
  clear hQ
  go_wp2_with fail
  refine (unhide q5).mono ?_
  rintro r w13 ⟨rfl, mk13, hg⟩
  have MM := hide mk13
  have s13 := hg.size
  replace RA := hide ((unhide RA).grown hg (fun e => by have h1 := unhide g2 _ e.symm; have h2 := unhide wlt; have h3 := unhide sz5; omega))
  replace OW1 := hide ((unhide OW1).kept hg (by
    cases hq : (Value.slice a0 r1.length c0).ownBlock with
    | none => exact .inl rfl
    | some g => exact .inr (fun e => by have h1 := unhide g2 g e.symm; have h2 := unhide g0 g hq; have h3 := unhide sz5; omega)))
  replace B := hide ((unhide B).grown hg (unhide B).size (fun j h => by have h1 := unhide g2 j h; have h2 := unhide wl; have h3 := unhide sz5; omega))
  clear hg mk13 q5 OW2
  go_wp2_with fail
  refine (unhide qh _ (unhide MM)).mono ?_
  rintro r w14 ⟨rfl, hb14⟩
  replace B := hide (bTr (unhide B) hb14)
  replace RA := hide ((unhide RA).keep hb14)
  replace OW1 := hide (own_keepT (unhide OW1) hb14)
  replace MM := hide ((unhide MM).keep hb14)
  clear hb14
  have Y := hide (And.intro ((unhide RA).at (o := 0) (v := .int .i64 a.x) rfl) (And.intro ((unhide RA).at (o := 1) (v := .int .i64 a.n) rfl) (And.intro ((unhide RA).at (o := 2) (v := .string a.t) rfl) ((unhide RA).at (o := 3) (v := .string a.y) rfl))))
  go_wp2_with fail
  go_region_held3 (fun w' => w'.cell? ⟨w.heap.size, 0, none⟩ = some (.int .i64 a.x) ∧ w'.cell? ⟨w.heap.size, 1, none⟩ = some (.int .i64 a.n) ∧ w'.cell? ⟨w.heap.size, 2, none⟩ = some (.string a.t) ∧ w'.cell? ⟨w.heap.size, 3, none⟩ = some (.string a.y))
    (first | exact unhide Y | exact unhide Ya3 | exact unhide Yb3 | exact unhide Yc3)
    (first
      | (go_at_call 8; refine (unhide QT _ ((unhide HS).keep (unhide B).drew)).mono ?_; rintro e wa3 ⟨⟨h3, rfl, m3⟩, hbq⟩; replace hbq := undrew hbq; have Ra3 := hide ((unhide RA).keep hbq); have Ya3 := hide (And.intro ((unhide Ra3).at (o := 0) (v := .int .i64 a.x) rfl) (And.intro ((unhide Ra3).at (o := 1) (v := .int .i64 a.n) rfl) (And.intro ((unhide Ra3).at (o := 2) (v := .string a.t) rfl) ((unhide Ra3).at (o := 3) (v := .string a.y) rfl)))); have Ba3 := hide (bTr (unhide B) hbq); have Ma3 := hide (m3.lo (Nat.zero_le _)); have OW1a3 := hide (own_keepT (unhide OW1) hbq); have MMa3 := hide ((unhide MM).keep hbq); clear hbq m3)
      | (go_at_call 9; refine (unhide qta _).mono ?_; rintro e wb3 ⟨rfl, hbq⟩; have Rb3 := hide ((unhide Ra3).keep hbq); have Yb3 := hide (And.intro ((unhide Rb3).at (o := 0) (v := .int .i64 a.x) rfl) (And.intro ((unhide Rb3).at (o := 1) (v := .int .i64 a.n) rfl) (And.intro ((unhide Rb3).at (o := 2) (v := .string a.t) rfl) ((unhide Rb3).at (o := 3) (v := .string a.y) rfl)))); have Bb3 := hide (bTr (unhide Ba3) hbq); have Mb3 := hide ((unhide Ma3).keep hbq); have OW1b3 := hide (own_keepT (unhide OW1a3) hbq); have MMb3 := hide ((unhide MMa3).keep hbq); clear hbq)
      | (go_at_call 10; refine (unhide qi h3 _ (unhide Mb3)).mono ?_; rintro e wc3 ⟨⟨v3, r3, rfl, an3, ow3⟩, hbq⟩; have Rc3 := hide ((unhide Rb3).keep hbq); have Yc3 := hide (And.intro ((unhide Rc3).at (o := 0) (v := .int .i64 a.x) rfl) (And.intro ((unhide Rc3).at (o := 1) (v := .int .i64 a.n) rfl) (And.intro ((unhide Rc3).at (o := 2) (v := .string a.t) rfl) ((unhide Rc3).at (o := 3) (v := .string a.y) rfl)))); have Bc3 := hide (bTr (unhide Bb3) hbq); have AN3 := hide an3; have OW3 := hide ow3; have OW1c3 := hide (own_keepT (unhide OW1b3) hbq); have MMc3 := hide ((unhide MMb3).keep hbq); clear hbq an3 ow3))
  replace RA := Rc3
  replace B := Bc3
  replace OW1 := OW1c3
  replace MM := MMc3
  clear Y Ya3 Yb3 Yc3 Ra3 Rb3 Rc3 Ba3 Bb3 Bc3 Ma3 Mb3 OW1a3 OW1b3 OW1c3 MMa3 MMb3 MMc3
  obtain rfl := (unhide AN1).uniq (unhide AN3)
  obtain ⟨a3, c3, e3⟩ := own_sl (unhide OW3)
  subst e3
  have q3 := hide (eqAtomS_same a3 a0 r1.length c3 r1.length c0 r1 wc3 (sla_own (unhide OW3)) (sla_own (unhide OW1)) (unhide HML))
  go_wp2_with fail
  refine (unhide q3).mono ?_
  rintro r w16 ⟨rfl, hb16⟩
  replace B := hide (bTr (unhide B) hb16)
  replace MM := hide ((unhide MM).keep hb16)
  clear hb16 q3
  go_wp2_with fail
  refine (unhide qh _ (unhide MM)).mono ?_
  rintro r w17 ⟨rfl, hb17⟩
  replace B := hide (bTr (unhide B) hb17)
  clear hb17
  go_wp2_with fail
  go_ret
  exact ⟨rfl, unhide B⟩

set_option maxRecDepth 100000 in
theorem lifted (os : Os) (started : os.Started) (H : Type) (enc : TypeId × Value → H) :
    ReturnsInHanded {} Tryz.checked os 3 .any (Rows.fnExactAncestorsSpec.pre6 enc Tryz.prog Tryz.f3 Rows.fnExactAncestorsRow.domain false) (Rows.fnExactAncestorsSpec.post enc Tryz.prog Tryz.f3 false true false false) := by
  refine returnsInHanded_of_change (C := Tryz.checked) own started (by kernel_rfl) Tryz.func3
    (ChangeSpec.witness6 (enc := enc) (C := Tryz.checked) false ⟨#[], #[.slice none 0 0, .agg #[.int .i64 0, .int .i64 0, .string ByteArray.empty, .string ByteArray.empty]], []⟩ 8 (by kernel_rfl) (by kernel_rfl) (by kernel_rfl) (by kernel_rfl)) ?_
  intro W base args ds gs before hval0 hW hcnd _
  have hval : ∀ (j : Nat) t v, Tryz.f3.params[j]? = some t → args[j]? = some v → Value.okWide Tryz.prog W .any base t v := hval0
  have hW' := hW
  obtain ⟨p, q, hA0, hV, rfl, hfz, hnd⟩ := hW
  have hA : DataW.TrodAll enc Tryz.prog W 0 (fun _ => true) true Tryz.f3.params.toList args.toList ds p := hA0
  rw [Tryz.params3] at hA hval
  obtain ⟨v0, vs0, d0, ds0, p0, q0, hargs, rfl, rfl, h0, r0⟩ := trodAll_cons hA
  obtain ⟨v1, vs1, d1, ds1, p1, q1, rfl, rfl, rfl, h1, r1⟩ := trodAll_cons r0
  obtain ⟨rfl, rfl, rfl⟩ := trodAll_nil r1
  obtain rfl : args = #[v0, v1] := by cases args; simp_all
  obtain ⟨rfl, rfl⟩ := trodVars_none hV
  have k0 := h0
  have lt0 : ∀ x ∈ p0, x.block < W.heap.size := by obtain ⟨m, hm⟩ := k0; exact DataW.trod_lt m _ _ _ hm
  obtain ⟨g0, l0, e0, s0, o0, m0⟩ := V.cames_Thing (hval 0 22 v0 rfl rfl) h0
  subst e0
  have k1 := h1
  have lt1 : ∀ x ∈ p1, x.block < W.heap.size := by obtain ⟨m, hm⟩ := k1; exact DataW.trod_lt m _ _ _ hm
  obtain ⟨c1, e1, o1⟩ := V.readv_atom (hval 1 24 v1 rfl rfl) h1
  subst e1
  clear hA0 hval0
  refine (walk g0 l0 c1 W s0 o0 m0 o1).mono fun e W' ⟨he, bel⟩ => ?_
  subst he
  exact ⟨_, rfl, _, _, _, [], _, [], hW', trodAll_mk1 (shut_bool Tryz.underlying4 _), (trodAll_cons_mk (Below.trod laidOut (by kernel_rfl) (of_decide_eq_true (by kernel_rfl)) k0 bel lt0) (trodAll_cons_mk (Below.trod laidOut (by kernel_rfl) (of_decide_eq_true (by kernel_rfl)) k1 bel lt1) trodAll_mk0)), rfl, bel.frame _, fun h => by cases h⟩

theorem over : Rows.fnExactAncestorsRow.holds Tryz.pinned (OpenSpec.ofChange Rows.fnExactAncestorsSpec) :=
  OpenClaim.holds_of_wide 3 Tryz.f3 rfl rfl rfl rfl rfl rfl rfl ⟨rfl, rfl, rfl, rfl, rfl⟩ rfl rfl rfl rfl rfl (by kernel_rfl) Tryz.func3 (by kernel_rfl)
    (of_decide_eq_true (by kernel_rfl)) (by unfold Func.isWrapper; rw [if_neg (by decide +kernel)]; exact ⟨rfl, rfl⟩)
    (fun os started H enc _ => lifted os started H enc)
end Go.Proofs.YtpfekkhnjaopdaaGreat.fnExactAncestors
namespace Go.Proofs.YtpfekkhnjaopdaaGreat
theorem fnExactAncestors_holds : Rows.FnExactAncestorsSaid := fnExactAncestors.over
end Go.Proofs.YtpfekkhnjaopdaaGreat
